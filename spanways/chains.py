"""Ways, and sets of ways, put one behind the other."""

from spanways.ways import ways_in, zone_of, zones

# Row: the first way, place in it: the second one. Written out and not worked out anew at each question,
# because going round threes asks for it many thousand times.
CHAINED = (
    (1, 1, 1, 1, 1, 1, 1, 1, 295, 295, 295, 295, 8191),
    (1, 1, 1, 1, 1, 2, 2, 2, 292, 292, 292, 584, 7312),
    (1, 1, 7, 7, 31, 4, 4, 28, 292, 292, 2044, 1168, 7312),
    (1, 2, 4, 8, 16, 4, 8, 16, 292, 584, 1168, 1168, 7312),
    (31, 28, 28, 16, 16, 28, 16, 16, 2044, 1168, 1168, 1168, 7312),
    (1, 1, 7, 7, 31, 32, 32, 224, 256, 256, 1792, 2048, 4096),
    (1, 2, 4, 8, 16, 32, 64, 128, 256, 512, 1024, 2048, 4096),
    (31, 28, 28, 16, 16, 224, 128, 128, 1792, 1024, 1024, 2048, 4096),
    (1, 1, 295, 295, 8191, 256, 256, 7936, 256, 256, 7936, 4096, 4096),
    (1, 2, 292, 584, 7312, 256, 512, 7168, 256, 512, 7168, 4096, 4096),
    (31, 28, 2044, 1168, 7312, 1792, 1024, 7168, 1792, 1024, 7168, 4096, 4096),
    (31, 224, 1792, 2048, 4096, 1792, 2048, 4096, 1792, 2048, 4096, 4096, 4096),
    (8191, 7936, 7936, 4096, 4096, 7936, 4096, 4096, 7936, 4096, 4096, 4096, 4096),
)

# A sample's third stretch, and by zones to it the start and the end of its second one. All of these times
# are multiples of 3 from 3 to 24, so between two unlike ones, and outside of them among the times below
# TIMES, there is room for a start and an end of the first stretch.
THIRD = (9, 18)
SECOND_STARTS = (3, 9, 12, 18, 21)
SECOND_ENDS = (6, 9, 15, 18, 24)
TIMES = 27


def chained(first, second):
    return CHAINED[first][second]


def chained_sets(one, other):
    seconds = ways_in(other)
    reached = 0
    for first in ways_in(one):
        for second in seconds:
            reached = reached | CHAINED[first][second]
    return reached


def second_stretch(way):
    return (SECOND_STARTS[zones(way)[0]], SECOND_ENDS[zones(way)[1]])


def times_between(middle, near, far):
    return [time for time in range(TIMES) if zone_of(time, middle) == near and zone_of(time, THIRD) == far]


# The least start is ahead of the greatest end wherever there are both: no way's end lies in a lesser zone
# than its start, and where both zones are alike they lie in one gap, which has room for two times.
def sample(first, second, third):
    middle = second_stretch(second)
    starts = times_between(middle, zones(first)[0], zones(third)[0])
    ends = times_between(middle, zones(first)[1], zones(third)[1])
    if starts == [] or ends == []:
        return None
    return [(starts[0], ends[-1]), middle, THIRD]

"""The thirteen ways in which one stretch lies to another one, and sets of them."""

ALL = 8191

# A way is told by its number: the place of its word here, and of its zones below.
WORDS = (
    "ahead", "joins", "laps", "closedby", "holds", "opens", "same",
    "openedby", "within", "closes", "lappedby", "joinedby", "behind",
)

ZONES = (
    (0, 0), (0, 1), (0, 2), (0, 3), (0, 4), (1, 2), (1, 3),
    (1, 4), (2, 2), (2, 3), (2, 4), (3, 4), (4, 4),
)


def way_words():
    return list(WORDS)


def zones(way):
    return ZONES[way]


def zone_of(time, stretch):
    if time < stretch[0]:
        return 0
    if time == stretch[0]:
        return 1
    if time < stretch[1]:
        return 2
    if time == stretch[1]:
        return 3
    return 4


def way_between(one, other):
    return ZONES.index((zone_of(one[0], other), zone_of(one[1], other)))


def ways_in(mask):
    return [way for way in range(13) if (mask >> way) & 1 == 1]


# The ways are unlike ones: a way told twice would carry into the next bit.
def set_of(ways):
    return sum([1 << way for way in ways])


def turned(mask):
    return set_of([12 - way for way in ways_in(mask)])

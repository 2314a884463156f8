"""Tame sets of ways, and hulls."""

from spanways.ways import ALL, set_of, ways_in, zones


def rectangle(starts, ends):
    return set_of([
        way for way in range(13)
        if starts[0] <= zones(way)[0] <= starts[1] and ends[0] <= zones(way)[1] <= ends[1]
    ])


# Zones that hold all of a set's starts and ends reach at least from the least to the greatest of them,
# so the rectangle of these lies within every tame set that holds the set.
def hull(mask):
    starts = [zones(way)[0] for way in ways_in(mask)]
    ends = [zones(way)[1] for way in ways_in(mask)]
    return rectangle((min(starts), max(starts)), (min(ends), max(ends)))


def tame(mask):
    return 0 < mask <= ALL and hull(mask) == mask

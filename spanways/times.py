"""Bounds between points of time, and times that keep them or a ring that shows that nothing does."""

from spanways.nets import pairs_of
from spanways.ways import ways_in, zones


def grain(count):
    return 2 * count + 1


def length_bounds(length, one):
    start = 2 * length[0]
    return [(start, start + 1, -length[1] * one), (start + 1, start, length[2] * one)]


# Of all the zones in which p lies to a stretch only the least and the greatest count. q is the point of that
# stretch at which a time is in the zone at.
def point_bounds(p, q, at, seen):
    found = []
    if max(seen) <= at:
        found.append((p, q, -1 if max(seen) < at else 0))
    if min(seen) >= at:
        found.append((q, p, -1 if min(seen) > at else 0))
    return found


# One pass over the pairs i < j tells both (p, q) and (q, p): the turned set says the same of the same points.
def set_bounds(i, mask, j):
    found = []
    for side in range(2):
        seen = [zones(way)[side] for way in ways_in(mask)]
        found.extend(point_bounds(2 * i + side, 2 * j, 1, seen))
        found.extend(point_bounds(2 * i + side, 2 * j + 1, 3, seen))
    return found


def bounds(net, lengths):
    found = [(2 * i, 2 * i + 1, -1) for i in range(len(net))]
    for length in lengths:
        found.extend(length_bounds(length, grain(len(net))))
    for pair in pairs_of(len(net)):
        found.extend(set_bounds(pair[0], net[pair[0]][pair[1]], pair[1]))
    return found


def least_bounds(found):
    least = {}
    for bound in found:
        pair = (bound[0], bound[1])
        least[pair] = min(least.get(pair, bound[2]), bound[2])
    return least


# Moves each point that is too late for a bound, and keeps for whose sake; tells one that was moved, or None.
def moved(least, times, causes):
    last = None
    for pair, most in least.items():
        if times[pair[0]] > times[pair[1]] + most:
            times[pair[0]] = times[pair[1]] + most
            causes[pair[0]] = pair[1]
            last = pair[0]
    return last


# From a point that was moved in the last turn, causes lead into a ring within as many steps as there are points.
def ring_behind(point, causes):
    for step in range(len(causes)):
        point = causes[point]
    ring = [point, causes[point]]
    while ring[-1] != point:
        ring.append(causes[ring[-1]])
    return ring


# Where something keeps the bounds, no point is moved in a turn behind as many turns as there are points.
def timed(points, bounds):
    least = least_bounds(bounds)
    times = [0] * points
    causes = [None] * points
    for turn in range(points + 1):
        last = moved(least, times, causes)
        if last is None:
            first = min(times, default=0)
            return ("times", [time - first for time in times])
    return ("ring", ring_behind(last, causes))

"""Nets: for each two of some stretches the set of ways in which the one may lie to the other."""

from spanways.chains import chained_sets
from spanways.ways import ALL, turned, way_between

# The set of way 6 alone: each stretch lies so to itself.
SAME = 64


def wide_row(count, i):
    return [ALL] * i + [SAME] + [ALL] * (count - i - 1)


def wide(count):
    return [wide_row(count, i) for i in range(count)]


# The pairs in the order in which sets are split.
def pairs_of(count):
    found = []
    for i in range(count):
        for j in range(i + 1, count):
            found.append((i, j))
    return found


def narrowed(net, i, mask, j):
    made = [list(row) for row in net]
    made[i][j] = net[i][j] & mask
    made[j][i] = turned(made[i][j])
    return made


def left_by(net, three):
    first = net[three[0]][three[1]]
    second = net[three[1]][three[2]]
    return net[three[0]][three[2]] & chained_sets(first, second)


def narrows(net, three):
    return left_by(net, three) != net[three[0]][three[2]]


def made_of(net, three):
    return narrowed(net, three[0], left_by(net, three), three[2])


def is_empty(net):
    return any([0 in row for row in net])


# The set of a pair takes part in the threes that go along it first and then on to another stretch, from
# either end. The same threes read backwards say nothing else.
def threes_along(pair, count):
    found = []
    for other in range(count):
        if other not in pair:
            found.append((pair[0], pair[1], other))
            found.append((pair[1], pair[0], other))
    return found


# Only the threes along the pairs that wait are tried: a three that did not narrow the net can narrow it
# later only where a set that it goes along was narrowed since. So where a closed net was narrowed at some
# pairs, these alone need to wait.
def rounded_from(net, pairs):
    steps = []
    if is_empty(net):
        return (None, steps)
    end = [list(row) for row in net]
    waiting = list(pairs)
    while waiting != []:
        pair = waiting.pop(0)
        for three in threes_along(pair, len(net)):
            if narrows(end, three):
                end = made_of(end, three)
                steps.append(three)
                if end[three[0]][three[2]] == 0:
                    return (None, steps)
                waiting.append((three[0], three[2]))
    return (end, steps)


def rounded(net):
    return rounded_from(net, pairs_of(len(net)))


def fits(net, stretches):
    for pair in pairs_of(len(net)):
        way = way_between(stretches[pair[0]], stretches[pair[1]])
        if (net[pair[0]][pair[1]] >> way) & 1 == 0:
            return False
    return True

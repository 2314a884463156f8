"""Trees that tell a clash, and whether one follows from facts."""

from spanways.nets import is_empty, made_of, narrows, rounded
from spanways.splits import first_net, groups_in, lengths_in, split_of
from spanways.times import bounds, least_bounds


# Any number may stand in a step, so the stretches are looked at ahead of the net's rows.
def is_three(three, count):
    return len(set(three)) == 3 and all([0 <= stretch < count for stretch in three])


# The net behind the steps, None where one of them can not stand where it stands.
def behind_steps(net, steps):
    for three in steps:
        if is_empty(net) or not is_three(three, len(net)) or not narrows(net, three):
            return None
        net = made_of(net, three)
    return net


def is_ring(ring, found):
    if len(ring) < 3 or ring[0] != ring[-1] or len(set(ring)) != len(ring) - 1:
        return False
    least = least_bounds(found)
    pairs = list(zip(ring, ring[1:]))
    if not all([pair in least for pair in pairs]):
        return False
    return sum([least[pair] for pair in pairs]) < 0


def shows(net, groups, lengths, tree):
    end = behind_steps(net, tree[1])
    if end is None:
        return False
    if tree[0] == "threes":
        return is_empty(end)
    if is_empty(end) or rounded(end)[1] != []:
        return False
    if tree[0] == "ring":
        return is_ring(tree[2], bounds(end, lengths))
    split = split_of(end, groups)
    if split is None or split[0] != tree[0] or split[1] != tree[2:-1]:
        return False
    return all_show(split[2], groups[1:], lengths, tree[-1])


def all_show(nets, groups, lengths, branches):
    if len(nets) != len(branches):
        return False
    for net, branch in zip(nets, branches):
        if not shows(net, groups, lengths, branch):
            return False
    return True


def follows(count, facts, tree):
    return shows(first_net(count, facts), groups_in(facts), lengths_in(facts), tree)

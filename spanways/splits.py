"""What plans and trees share: the first net that facts make, and how a closed net is split."""

from spanways.nets import narrowed, pairs_of, wide
from spanways.ways import ALL, ways_in


def first_net(count, facts):
    net = wide(count)
    for fact in facts:
        if fact[0] == "ways":
            net = narrowed(net, fact[1], fact[2], fact[3])
    return net


def lengths_in(facts):
    return [(fact[1], fact[2], fact[3]) for fact in facts if fact[0] == "long"]


def groups_in(facts):
    return [fact[1] for fact in facts if fact[0] == "one"]


def only_member(net, group, chosen):
    for place, member in enumerate(group):
        mask = member[2] if place == chosen else ALL & ~member[2]
        net = narrowed(net, member[1], mask, member[3])
    return net


def first_loose_pair(net):
    for pair in pairs_of(len(net)):
        if len(ways_in(net[pair[0]][pair[1]])) > 1:
            return pair
    return None


# Tells (word, places, nets, pairs): a tree's word and the stretches that it names, the net of each branch,
# and the pairs at which these are narrowed; None where nothing is left to split.
def split_of(net, groups):
    if groups != []:
        group = groups[0]
        nets = [only_member(net, group, chosen) for chosen in range(len(group))]
        return ("one", (), nets, [(member[1], member[3]) for member in group])
    pair = first_loose_pair(net)
    if pair is None:
        return None
    mask = net[pair[0]][pair[1]]
    nets = [narrowed(net, pair[0], 1 << way, pair[1]) for way in ways_in(mask)]
    return ("split", pair, nets, [pair])

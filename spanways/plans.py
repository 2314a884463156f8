"""Plans: stretches in grains that keep all facts, or a tree that shows that there are none."""

from spanways.nets import pairs_of, rounded_from
from spanways.splits import first_net, groups_in, lengths_in, split_of
from spanways.times import bounds, timed


class Search:
    def __init__(self, lengths, most):
        self.lengths = lengths
        self.most = most
        self.made = 0

    # pairs: those at which the net may be narrower than a closed one.
    def look(self, net, pairs, groups):
        gone_round = rounded_from(net, pairs)
        end = gone_round[0]
        steps = gone_round[1]
        if end is None:
            return ("clash", ("threes", steps))
        laid = timed(2 * len(end), bounds(end, self.lengths))
        if laid[0] == "ring":
            return ("clash", ("ring", steps, laid[1]))
        split = split_of(end, groups)
        if split is None:
            return ("laid", stretches_at(laid[1]))
        if self.made >= self.most:
            return ("open", None)
        self.made = self.made + 1
        return self.look_at_branches(split, steps, groups[1:])

    def look_at_branches(self, split, steps, groups):
        branches = []
        for net in split[2]:
            told = self.look(net, split[3], groups)
            if told[0] != "clash":
                return told
            branches.append(told[1])
        return ("clash", (split[0], steps) + split[1] + (branches,))


def stretches_at(times):
    return [(times[start], times[start + 1]) for start in range(0, len(times), 2)]


def planned(count, facts, most=200):
    search = Search(lengths_in(facts), most)
    told = search.look(first_net(count, facts), pairs_of(count), groups_in(facts))
    return (told[0], told[1], search.made)

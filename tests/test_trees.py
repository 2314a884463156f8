import copy
import random
import unittest

from spanways.plans import planned
from spanways.times import timed
from spanways.trees import follows
from tests.oracle import (
    bounds_of, can_be_kept, drawn_facts, empty, groups_of, is_tree, lengths_of, narrowing, next_split, shape,
    starting_net, three_makes, tight_facts,
)

FAR = 10 ** 60 - 1


def clashes(seed, tries):
    """(count, facts, tree) that planned tells."""
    rng = random.Random(seed)
    for _ in range(tries):
        count = rng.choice([2, 3, 4, 5, 6])
        if rng.random() < 0.6:
            facts = tight_facts(rng, count, rng.choice([0, 0, 1, 2]))
        else:
            facts = drawn_facts(rng, count, rng.randint(0, 3 * count), rng.randint(0, 4), rng.choice([0, 1, 3]))
        word, tree, splits = planned(count, facts, 12)
        if word == "clash":
            yield count, facts, tree


def nodes(tree, path=()):
    """Every (path, node): the path tells which branch to take, from the root on."""
    yield path, tree
    if tree[0] in ("one", "split"):
        for place, branch in enumerate(tree[-1]):
            yield from nodes(branch, path + (place,))


def with_node(tree, path, node):
    if path == ():
        return node
    branches = list(tree[-1])
    branches[path[0]] = with_node(branches[path[0]], path[1:], node)
    return tree[:-1] + (branches,)


def with_steps(node, steps):
    return (node[0], steps) + node[2:]


def with_three(node, place, three):
    return with_steps(node, node[1][:place] + [three] + node[1][place + 1:])


def wrong_threes(count, three):
    i, k, j = three
    yield from ((i, i, j), (i, k, k), (i, k, i), (k, k, k))
    for stretch in (-1, -count, count, count + 1, FAR, -FAR):
        yield from ((stretch, k, j), (i, stretch, j), (i, k, stretch))
    yield from ((i - count, k, j), (i, k - count, j), (i, k, j - count))


def wrong_rings(count, ring):
    yield from ([], ring[:1], ring[:1] * 2, ring[:1] * 3, ring[:-1], ring[1:], ring + ring[1:])
    for point in (-1, -2 * count, 2 * count, FAR, -FAR):
        yield from ([point] + ring[1:-1] + [point], ring[:1] + [point] + ring[2:], ring + [point], [point] + ring)
        yield [point, point, point]
    yield ring[:-1] + [ring[-1] - 2 * count]
    yield [point - 2 * count for point in ring]


def always_wrong(count, node):
    """Trees that can not stand where this one stands."""
    steps = node[1]
    for place, three in enumerate(steps):
        yield with_steps(node, steps[:place + 1] + steps[place:])
        for wrong in wrong_threes(count, three):
            yield with_three(node, place, wrong)
    for three in [(0, 1, 2), (2, 1, 0), (1, 0, 2)] + steps[:1]:
        yield with_steps(node, steps + [three])
    yield from other_forms(node)
    if node[0] == "threes" and steps:
        yield with_steps(node, steps[:-1])
    if node[0] == "ring":
        for wrong in wrong_rings(count, node[2]):
            yield ("ring", steps, wrong)
    if node[0] in ("one", "split"):
        branches = node[-1]
        for wrong in ([], branches[1:], branches[:-1], branches + branches[:1], branches[:1] + branches):
            yield node[:-1] + (wrong,)
    if node[0] == "split":
        i, j = node[2:4]
        for pair in ((j, i), (i, j + 1), (i + 1, j), (i, i), (i - count, j), (i, j - count), (FAR, -FAR), (-1, j)):
            yield ("split", steps) + pair + node[4:]


def other_forms(node):
    steps = node[1]
    if node[0] != "threes":
        yield ("threes", steps)
    if node[0] == "threes":
        yield ("ring", steps, [0, 1, 0])
    for word in ("one", "split"):
        if node[0] != word:
            for branches in ([], [("threes", [])] * 13):
                yield (word, steps) + ((0, 1) if word == "split" else ()) + (branches,)


def maybe_wrong(rng, node):
    """Trees that may or may not stand where this one stands."""
    steps = node[1]
    for place, (i, k, j) in enumerate(steps):
        yield with_steps(node, steps[:place] + steps[place + 1:])
        for other in ((j, k, i), (k, i, j), (i, j, k)):
            yield with_three(node, place, other)
    yield with_steps(node, rng.sample(steps, len(steps)))
    yield ("one", steps, [with_steps(node, [])])
    if node[0] == "ring":
        points = node[2][:-1]
        for ring in (points[::-1], points[1:] + points[:1], rng.sample(points, len(points)), points[:2], points[1:]):
            yield ("ring", steps, ring + ring[:1])
    if node[0] in ("one", "split"):
        yield node[:-1] + (rng.sample(node[-1], len(node[-1])),)
        for place, branch in enumerate(node[-1]):
            other = rng.choice(node[-1])
            yield node[:-1] + (node[-1][:place] + [other] + node[-1][place + 1:],)


def other_tree(rng, count, facts):
    """A tree with threes in any order, and with splits where a ring could be told; None where there is a plan."""
    def grown(net, groups):
        steps = []
        while narrowing(net) and not empty(net):
            steps.append(rng.choice(narrowing(net)))
            net = three_makes(net, steps[-1])
        if empty(net):
            return ("threes", steps)
        split = next_split(net, groups)
        bounds = sorted(bounds_of(net, lengths_of(facts)))
        if not can_be_kept(2 * count, bounds) and (split is None or rng.random() < 0.7):
            return ("ring", steps, timed(2 * count, bounds)[1])
        if split is None:
            return None
        branches = []
        for branch in split[1]:
            branches.append(grown(branch, groups[1:]))
            if branches[-1] is None:
                return None
        return split[0][:1] + (steps,) + split[0][1:] + (branches,)

    return grown(starting_net(count, facts), groups_of(facts))


class Follows(unittest.TestCase):
    def ask(self, count, facts, tree):
        before = copy.deepcopy((facts, tree))
        told = follows(count, facts, tree)
        self.assertEqual((facts, tree), before)
        self.assertIs(type(told), bool)
        return told

    def test_every_tree_that_planned_tells(self):
        seen = {}
        for count, facts, tree in clashes(1, 250):
            self.assertTrue(is_tree(count, facts, tree))
            self.assertIs(self.ask(count, facts, tree), True)
            for path, node in nodes(tree):
                seen[node[0]] = seen.get(node[0], 0) + 1
        self.assertGreater(min(seen[word] for word in ("threes", "ring", "one", "split")), 10, seen)

    def test_trees_of_eight_stretches(self):
        rng = random.Random(2)
        for _ in range(40):
            facts = drawn_facts(rng, 8, 20, 6, 3)
            word, tree, splits = planned(8, facts)
            if word == "clash":
                self.assertIs(self.ask(8, facts, tree), True)

    def test_trees_spoiled_at_one_place(self):
        rng = random.Random(3)
        tried = 0
        for count, facts, tree in clashes(4, 120):
            for path, node in rng.sample(list(nodes(tree)), min(4, len(list(nodes(tree))))):
                for wrong in always_wrong(count, node):
                    self.assertIs(self.ask(count, facts, with_node(tree, path, wrong)), False, (tree, wrong))
                    tried += 1
        self.assertGreater(tried, 5000)

    def test_trees_changed_at_one_place(self):
        rng = random.Random(5)
        seen = {True: 0, False: 0}
        for count, facts, tree in clashes(6, 60):
            for path, node in rng.sample(list(nodes(tree)), min(3, len(list(nodes(tree))))):
                for other in maybe_wrong(rng, node):
                    changed = with_node(tree, path, other)
                    told = self.ask(count, facts, changed)
                    self.assertEqual(told, is_tree(count, facts, changed), (facts, changed))
                    seen[told] += 1
        self.assertGreater(min(seen.values()), 100, seen)

    def test_trees_that_planned_does_not_tell(self):
        rng = random.Random(7)
        seen = {True: 0, False: 0}
        for _ in range(80):
            count = rng.choice([2, 3, 3, 4])
            facts = drawn_facts(rng, count, 2 * count, rng.randint(0, 4), rng.choice([0, 1, 2]))
            if rng.random() < 0.5:
                facts = tight_facts(rng, count, rng.choice([0, 1]))
            tree = other_tree(rng, count, facts)
            word, told, splits = planned(count, facts, 1000)
            self.assertEqual(tree is None, word == "laid")
            if tree is not None:
                self.assertIs(self.ask(count, facts, tree), True)
                seen[shape(tree) == shape(told)] += 1
        self.assertGreater(min(seen.values()), 3, seen)

    def test_a_split_where_a_ring_could_be_told(self):
        facts = [("long", 0, 0, 0), ("ways", 0, 0b11, 1)]
        self.assertEqual(planned(2, facts)[1][0], "ring")
        ring = ("ring", [], [0, 1, 0])
        self.assertIs(self.ask(2, facts, ring), True)
        self.assertIs(self.ask(2, facts, ("split", [], 0, 1, [ring, ring])), True)
        self.assertIs(self.ask(2, facts, ("split", [], 0, 1, [ring, ("threes", [])])), False)
        self.assertIs(self.ask(2, facts, ("split", [], 1, 0, [ring, ring])), False)
        deeper = ("split", [], 0, 1, [ring, ring])
        self.assertIs(self.ask(2, facts, ("split", [], 0, 1, [ring, deeper])), False)

    def test_the_first_group_left_is_split_and_sets_only_behind_groups(self):
        one = ("one", [("ways", 0, 0, 1)])
        two = ("one", [("ways", 0, 0, 1), ("ways", 1, 0, 0)])
        none = ("threes", [])
        self.assertIs(self.ask(2, [one, two], ("one", [], [none])), True)
        self.assertIs(self.ask(2, [one, two], ("one", [], [none, none])), False)
        self.assertIs(self.ask(2, [two, one], ("one", [], [none, none])), True)
        self.assertIs(self.ask(2, [two, one], ("one", [], [none])), False)
        self.assertIs(self.ask(2, [one], ("split", [], 0, 1, [none] * 13)), False)
        self.assertIs(self.ask(2, [one], ("split", [], 0, 1, [("one", [], [none])] * 13)), False)
        self.assertIs(self.ask(2, [], ("one", [], [])), False)
        self.assertIs(self.ask(2, [], ("one", [], [none])), False)

    def test_facts_without_a_clash_have_no_tree(self):
        for tree in (
                ("threes", []), ("ring", [], [0, 1, 0]), ("ring", [], []), ("one", [], []),
                ("split", [], 0, 1, []), ("split", [], 0, 1, [("threes", [])] * 13)):
            self.assertIs(self.ask(2, [], tree), False)
            self.assertIs(self.ask(2, [("ways", 0, 1, 1)], tree), False)
            self.assertIs(self.ask(1, [], tree), False)

    def test_an_empty_first_net_has_no_steps(self):
        facts = [("ways", 0, 0, 1)]
        self.assertIs(self.ask(3, facts, ("threes", [])), True)
        for three in ((0, 1, 2), (2, 1, 0), (0, 2, 1), (1, 2, 0)):
            self.assertIs(self.ask(3, facts, ("threes", [three])), False)
        self.assertIs(self.ask(3, facts, ("ring", [], [0, 1, 0])), False)
        self.assertIs(self.ask(3, facts, ("split", [], 0, 2, [("threes", [])] * 13)), False)

    def test_steps_that_stop_short_of_the_closed_net(self):
        facts = [("ways", 0, 1, 1), ("ways", 1, 1, 2), ("long", 0, 0, 0)]
        self.assertIs(self.ask(3, facts, ("ring", [(0, 1, 2)], [0, 1, 0])), True)
        self.assertIs(self.ask(3, facts, ("ring", [(2, 1, 0)], [0, 1, 0])), True)
        self.assertIs(self.ask(3, facts, ("ring", [], [0, 1, 0])), False)
        self.assertIs(self.ask(3, facts, ("threes", [(0, 1, 2)])), False)

    def test_a_ring_takes_the_least_bounds_of_two_points(self):
        facts = [("long", 0, 0, 9), ("long", 0, 4, 7), ("long", 0, 2, 3)]
        self.assertIs(self.ask(1, facts, ("ring", [], [0, 1, 0])), True)
        self.assertIs(self.ask(1, facts, ("ring", [], [1, 0, 1])), True)
        self.assertIs(self.ask(1, facts[:2], ("ring", [], [0, 1, 0])), False)

    def test_a_ring_with_a_tail_is_none(self):
        facts = [("long", 0, 0, 0), ("ways", 0, 1, 1), ("long", 1, 1, 1), ("ways", 1, 1 << 12, 0)]
        self.assertIs(self.ask(2, facts, ("ring", [], [0, 1, 0])), True)
        # Each two neighbours have a bound, and the mosts come to less than 0.
        for ring in ([0, 1, 0, 2], [1, 0, 1, 2], [0, 1, 0, 2, 3], [3, 2, 3, 2], [0, 1, 0, 1, 0]):
            self.assertIs(self.ask(2, facts, ("ring", [], ring)), False)

    def test_a_ring_that_comes_to_0_is_none(self):
        facts = [("long", 0, 2, 3), ("long", 0, 3, 4)]
        self.assertIs(self.ask(1, facts, ("ring", [], [0, 1, 0])), False)
        facts.append(("long", 0, 4, 4))
        self.assertIs(self.ask(1, facts, ("ring", [], [0, 1, 0])), True)

    def test_a_tree_of_other_facts(self):
        told = list(clashes(8, 60))
        seen = {True: 0, False: 0}
        for count, facts, tree in told:
            for other_count, other_facts, other in told[:25]:
                if other_count == count:
                    answer = self.ask(count, other_facts, tree)
                    self.assertEqual(answer, is_tree(count, other_facts, tree))
                    seen[answer] += 1
        self.assertGreater(seen[False], 50, seen)

    def test_more_facts_do_not_hurt_a_tree_of_no_steps(self):
        facts = [("ways", 0, 0, 1), ("long", 0, 1, 1), ("one", [("ways", 0, 1, 1)])]
        self.assertIs(self.ask(8, facts, ("threes", [])), True)

    def test_a_long_list_of_steps(self):
        facts = [("ways", k, 1, k + 1) for k in range(7)]
        self.assertIs(self.ask(8, facts, ("threes", [(0, 1, 2)] * 400)), False)
        self.assertIs(self.ask(8, facts, ("threes", [(0, 1, 2), (FAR, -FAR, FAR - 1)] * 200)), False)

    def test_forty_trees_within_trees(self):
        tree = ("threes", [])
        for _ in range(40):
            tree = ("split", [], 0, 1, [tree])
        self.assertIs(self.ask(8, [], tree), False)
        ring = tree = ("ring", [], [0, 1, 0])
        for _ in range(40):
            tree = ("split", [], 0, 1, [tree] + [ring] * 12)
        self.assertIs(self.ask(8, [("long", 0, 0, 0)], tree), False)

    def test_a_tree_as_deep_as_can_be(self):
        # Six groups, then all 28 pairs one behind the other, though a ring could be told at once.
        facts = [("long", 0, 0, 0)] + [("one", [("ways", 0, 8191, 1)])] * 6
        tree = deep_tree(8, facts)
        depth = max(len(path) for path, node in nodes(tree))
        self.assertEqual(depth, 34)
        self.assertIs(self.ask(8, facts, tree), True)


def deep_tree(count, facts):
    """Goes on only in each split's first branch that is not empty, all others end at once in a ring or empty."""
    def ended(net):
        steps = []
        while narrowing(net) and not empty(net):
            steps.append(narrowing(net)[0])
            net = three_makes(net, steps[-1])
        return steps, net

    def grown(net, groups, go_on):
        steps, net = ended(net)
        if empty(net):
            return ("threes", steps)
        split = next_split(net, groups)
        if split is None or not go_on:
            return ("ring", steps, [0, 1, 0])
        branches = [grown(branch, groups[1:], place == 0) for place, branch in enumerate(split[1])]
        return split[0][:1] + (steps,) + split[0][1:] + (branches,)

    return grown(starting_net(count, facts), groups_of(facts), True)


if __name__ == "__main__":
    unittest.main()

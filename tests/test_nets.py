import copy
import random
import unittest

from spanways.nets import fits, is_empty, made_of, narrowed, rounded, wide
from tests.oracle import (
    ALL, all_threes, closed, drawn_mask, drawn_net, drawn_stretches, empty, lie_in, narrow, narrowing, net_around,
    renumbered, three_leaves, three_makes, turn, widest,
)
from tests.table import EVERY_SET, LAID, OTHER, SAME, way

COUNTS = range(1, 9)


def spoil(net):
    """What an asker may do to a net that was told."""
    for row in net:
        row[0] = 5
        row.append(0)
    net.append([])


def set_at(count, places):
    """A net with these sets (and the turned ones), else wide."""
    net = widest(count)
    for (i, j), mask in places.items():
        net[i][j] = mask
        net[j][i] = turn(mask)
    return net


def nets(seed, tries):
    rng = random.Random(seed)
    for _ in range(tries):
        count = rng.choice([2, 3, 3, 4, 5, 8])
        share = rng.choice([0.1, 0.3, 0.5, 0.8])
        kind = rng.choice(["any", "full", "full", "around", "around"])
        if kind != "around":
            yield drawn_net(rng, count, share, 1 if kind == "full" else 0)
        else:
            yield net_around(rng, drawn_stretches(rng, count, 9), share / 2)


class Wide(unittest.TestCase):
    def test_one_to_eight_stretches(self):
        for count in COUNTS:
            told = wide(count)
            self.assertEqual(told, widest(count))
            self.assertIs(type(told), list)
            self.assertEqual([type(row) for row in told], [list] * count)
        self.assertEqual(wide(1), [[64]])
        self.assertEqual(wide(2), [[64, 8191], [8191, 64]])

    def test_what_was_told_is_the_asker_s_own(self):
        for count in COUNTS:
            spoil(wide(count))
            self.assertEqual(wide(count), widest(count))

    def test_its_rows_are_lists_of_their_own(self):
        told = wide(4)
        told[2][0] = 3
        self.assertEqual(told[:2] + told[3:], widest(4)[:2] + widest(4)[3:])


class Narrowed(unittest.TestCase):
    def test_the_wide_net_by_every_set(self):
        for mask in EVERY_SET:
            self.assertEqual(narrowed(wide(2), 0, mask, 1), [[SAME, mask], [turn(mask), SAME]])
            self.assertEqual(narrowed(wide(2), 1, mask, 0), [[SAME, turn(mask)], [mask, SAME]])

    def test_any_set_at_any_place(self):
        rng = random.Random(1)
        for net in nets(2, 150):
            for i in range(len(net)):
                for j in range(len(net)):
                    if i != j:
                        mask = rng.choice([0, ALL, net[i][j], drawn_mask(rng, 0.5)])
                        self.assertEqual(narrowed(net, i, mask, j), narrow(net, i, mask, j))

    def test_twice_is_what_both_sets_have_in_common(self):
        told = narrowed(narrowed(wide(3), 2, 0b1110, 0), 0, turn(0b0111), 2)
        self.assertEqual(told, set_at(3, {(2, 0): 0b0110}))

    def test_the_net_handed_in_stays(self):
        for net in nets(3, 50):
            before = copy.deepcopy(net)
            told = narrowed(net, 0, 0b10101, 1)
            self.assertEqual(net, before)
            spoil(told)
            self.assertEqual(net, before)

    def test_changing_the_net_handed_in_changes_nothing_that_was_told(self):
        for mask in (0, 0b10101, ALL):
            net = wide(4)
            told = narrowed(net, 1, mask, 3)
            before = copy.deepcopy(told)
            spoil(net)
            self.assertEqual(told, before)


class MadeOf(unittest.TestCase):
    def test_threes_that_narrow_and_that_do_not(self):
        seen = {True: 0, False: 0}
        for net in nets(4, 200):
            before = copy.deepcopy(net)
            for three in all_threes(len(net)):
                told = made_of(net, three)
                self.assertEqual(told, three_makes(net, three), three)
                self.assertEqual(net, before)
                seen[told == net] += 1
        self.assertGreater(min(seen.values()), 1000)

    def test_some_that_are_known(self):
        net = set_at(3, {(0, 1): 1, (1, 2): 1})
        self.assertEqual(made_of(net, (0, 1, 2)), set_at(3, {(0, 1): 1, (1, 2): 1, (0, 2): 1}))
        # The same three read backwards.
        self.assertEqual(made_of(net, (2, 1, 0)), set_at(3, {(0, 1): 1, (1, 2): 1, (0, 2): 1}))
        self.assertEqual(made_of(net, (1, 0, 2)), net)
        self.assertEqual(made_of(set_at(3, {(0, 1): 1, (1, 2): 1 << 12}), (0, 1, 2))[0][2], ALL)
        self.assertEqual(made_of(set_at(3, {(0, 1): 1, (1, 2): 1, (0, 2): 1 << 6}), (0, 1, 2))[0][2], 0)

    def test_with_an_empty_set(self):
        net = set_at(3, {(0, 1): 0})
        self.assertEqual(made_of(net, (0, 1, 2)), set_at(3, {(0, 1): 0, (0, 2): 0}))
        self.assertEqual(made_of(net, (0, 2, 1)), net)

    def test_what_was_told_is_the_asker_s_own(self):
        for three in ((0, 1, 2), (1, 0, 2)):
            net = set_at(3, {(0, 1): 1, (1, 2): 1})
            before = copy.deepcopy(net)
            told = made_of(net, three)
            spoil(told)
            self.assertEqual(net, before)
            told = made_of(net, three)
            before = copy.deepcopy(told)
            spoil(net)
            self.assertEqual(told, before)


class IsEmpty(unittest.TestCase):
    def test_wide_nets_are_not(self):
        for count in COUNTS:
            self.assertIs(is_empty(wide(count)), False)

    def test_one_empty_set_at_any_place(self):
        for count in range(2, 9):
            for i in range(count):
                for j in range(i + 1, count):
                    self.assertIs(is_empty(set_at(count, {(i, j): 0})), True)
                    self.assertIs(is_empty(set_at(count, {(i, j): 1})), False)

    def test_drawn_nets(self):
        for net in nets(5, 200):
            self.assertIs(is_empty(net), empty(net))


class Rounded(unittest.TestCase):
    def hold(self, net):
        """Point 8 for one net; tells what came of it."""
        before = copy.deepcopy(net)
        told = rounded(net)
        self.assertEqual(net, before)
        self.assertIs(type(told), tuple)
        end, steps = told
        self.assertIs(type(steps), list)
        now = net
        for three in steps:
            self.assertIs(type(three), tuple)
            self.assertEqual([type(stretch) for stretch in three], [int] * 3)
            self.assertFalse(empty(now))
            self.assertIn(three, narrowing(now))
            now = three_makes(now, three)
        if empty(now):
            self.assertIsNone(end)
        else:
            self.assertEqual(end, now)
            self.assertEqual(narrowing(now), [])
            self.assertEqual([type(row) for row in end], [list] * len(net))
        self.assertEqual(end, closed(net))
        return end, steps

    def test_drawn_nets(self):
        seen = {"empty by steps": 0, "closed by steps": 0, "no steps": 0}
        for net in nets(6, 1000):
            end, steps = self.hold(net)
            if not steps:
                seen["no steps"] += 1
            else:
                seen["empty by steps" if end is None else "closed by steps"] += 1
        self.assertGreater(min(seen.values()), 50, seen)

    def test_every_two_ways_of_three_stretches(self):
        for first in range(13):
            for second in range(13):
                net = set_at(3, {(0, 1): 1 << first, (1, 2): 1 << second})
                end, steps = self.hold(net)
                self.assertEqual(end[0][2], three_leaves(net, (0, 1, 2)))

    def test_a_long_row_of_eight(self):
        for number in range(13):
            end, steps = self.hold(set_at(8, {(k, k + 1): 1 << number for k in range(7)}))
            self.assertIsNotNone(end)

    def test_eight_in_a_circle(self):
        places = {(k, k + 1): 1 for k in range(7)}
        places[7, 0] = 1
        end, steps = self.hold(set_at(8, places))
        self.assertIsNone(end)
        self.assertNotEqual(steps, [])

    def test_the_net_that_is_made_empty_by_one_three(self):
        net = set_at(3, {(0, 1): 1, (1, 2): 1, (2, 0): 1})
        end, steps = self.hold(net)
        self.assertIsNone(end)
        self.assertEqual(len(steps), 1)

    def test_empty_already(self):
        rng = random.Random(7)
        for net in nets(8, 100):
            i, j = rng.sample(range(len(net)), 2)
            net[i][j] = net[j][i] = 0
            self.assertEqual(rounded(net), (None, []))

    def test_closed_already(self):
        for count in COUNTS:
            self.assertEqual(rounded(wide(count)), (widest(count), []))
        for net in nets(9, 200):
            end = closed(net)
            if end is not None:
                self.assertEqual(rounded(end), (end, []))

    def test_one_and_two_stretches(self):
        self.assertEqual(rounded([[SAME]]), ([[SAME]], []))
        for mask in EVERY_SET:
            net = [[SAME, mask], [turn(mask), SAME]]
            self.assertEqual(rounded(net), (net if mask else None, []))

    def test_numbered_in_another_order(self):
        rng = random.Random(10)
        for net in nets(11, 150):
            order = rng.sample(range(len(net)), len(net))
            end = rounded(net)[0]
            other = self.hold(renumbered(net, order))[0]
            self.assertEqual(other, None if end is None else renumbered(end, order))

    def test_what_was_told_is_the_asker_s_own(self):
        for net in (wide(3), set_at(3, {(0, 1): 1, (1, 2): 1}), set_at(3, {(0, 1): 1, (1, 2): 1, (0, 2): 2})):
            before = copy.deepcopy(net)
            told = copy.deepcopy(rounded(net))
            end, steps = rounded(net)
            steps.append((9, 9, 9))
            if end is not None:
                spoil(end)
            self.assertEqual(net, before)
            self.assertEqual(rounded(net), told)
            kept = rounded(net)
            spoil(net)
            self.assertEqual(kept, told)


class Fits(unittest.TestCase):
    def test_each_way_alone(self):
        for number, one in enumerate(LAID):
            for other in range(13):
                net = set_at(2, {(0, 1): 1 << other})
                self.assertIs(fits(net, [one, OTHER]), number == other)
                self.assertIs(fits(set_at(2, {(0, 1): ALL - (1 << other)}), [one, OTHER]), number != other)

    def test_one_stretch_and_wide_nets_fit(self):
        rng = random.Random(12)
        for count in COUNTS:
            self.assertIs(fits(wide(count), drawn_stretches(rng, count, 9)), True)

    def test_one_set_that_misses_one_way(self):
        rng = random.Random(13)
        for _ in range(200):
            count = rng.randint(2, 8)
            stretches = drawn_stretches(rng, count, 7)
            i, j = rng.sample(range(count), 2)
            lies = 1 << way(stretches[i], stretches[j])
            self.assertIs(fits(set_at(count, {(i, j): ALL - lies}), stretches), False)
            self.assertIs(fits(set_at(count, {(i, j): lies}), stretches), True)

    def test_drawn_stretches_in_drawn_nets(self):
        rng = random.Random(14)
        seen = {True: 0, False: 0}
        for net in nets(15, 400):
            stretches = drawn_stretches(rng, len(net), 6)
            before = copy.deepcopy((net, stretches))
            told = fits(net, stretches)
            self.assertIs(told, lie_in(net, stretches))
            self.assertEqual((net, stretches), before)
            seen[told] += 1
        self.assertGreater(min(seen.values()), 10)

    def test_times_of_sixty_figures(self):
        far = 10 ** 60 - 2
        net = set_at(2, {(0, 1): 1 << 1})
        self.assertIs(fits(net, [(-far, far), (far, far + 1)]), True)
        self.assertIs(fits(net, [(-far, far - 1), (far, far + 1)]), False)

    def test_what_fits_a_net_fits_what_threes_make_of_it_and_the_end(self):
        rng = random.Random(16)
        for _ in range(60):
            stretches = drawn_stretches(rng, rng.randint(1, 6), 8)
            net = net_around(rng, stretches, 0.2)
            self.assertIs(fits(net, stretches), True)
            for three in all_threes(len(net)):
                self.assertIs(fits(made_of(net, three), stretches), True)
            self.assertIs(fits(rounded(net)[0], stretches), True)


if __name__ == "__main__":
    unittest.main()

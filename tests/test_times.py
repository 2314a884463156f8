import copy
import random
import unittest

from spanways.nets import wide
from spanways.times import bounds, grain, timed
from tests.oracle import (
    bounds_of, can_be_kept, closed, drawn_net, drawn_stretches, is_ring, kept, net_around, points_of, turn,
)
from tests.table import EVERY_SET, SAME

SIXTY = 10 ** 60 - 1


def drawn_lengths(rng, count):
    found = []
    for _ in range(rng.choice([0, 1, 3, 8])):
        low = rng.choice([0, 0, 1, rng.randint(0, 10 ** 18)])
        found.append((rng.randrange(count), low, rng.choice([low, low + 1, 10 ** 18])))
    return found


class Grain(unittest.TestCase):
    def test_one_to_eight_stretches(self):
        self.assertEqual([grain(count) for count in range(1, 9)], [3, 5, 7, 9, 11, 13, 15, 17])


class Bounds(unittest.TestCase):
    def hold(self, net, lengths):
        before = copy.deepcopy((net, lengths))
        told = bounds(net, lengths)
        self.assertIs(type(told), list)
        for bound in told:
            self.assertIs(type(bound), tuple)
            self.assertEqual([type(number) for number in bound], [int] * 3)
        self.assertEqual(set(told), bounds_of(net, lengths))
        self.assertEqual((net, lengths), before)

    def test_one_stretch(self):
        self.assertEqual(set(bounds([[SAME]], [])), {(0, 1, -1)})
        self.assertEqual(set(bounds([[SAME]], [(0, 2, 5)])), {(0, 1, -1), (0, 1, -6), (1, 0, 15)})

    def test_some_that_are_known(self):
        own = {(0, 1, -1), (2, 3, -1)}
        ahead = {(p, q, -1) for p in (0, 1) for q in (2, 3)}
        behind = {(q, p, most) for p, q, most in ahead}
        self.assertEqual(set(bounds([[SAME, 1], [1 << 12, SAME]], [])), own | ahead)
        self.assertEqual(set(bounds([[SAME, 1 << 12], [1, SAME]], [])), own | behind)
        self.assertEqual(set(bounds([[SAME, 1 | 1 << 12], [1 | 1 << 12, SAME]], [])), own)
        self.assertEqual(set(bounds(wide(2), [])), own)
        same = {(0, 2, 0), (2, 0, 0), (1, 3, 0), (3, 1, 0), (0, 3, -1), (2, 1, -1)}
        self.assertEqual(set(bounds([[SAME, SAME], [SAME, SAME]], [])), own | same)
        joins_or_ahead = {(0, 2, -1), (0, 3, -1), (1, 2, 0), (1, 3, -1)}
        self.assertEqual(set(bounds([[SAME, 3], [turn(3), SAME]], [])), own | joins_or_ahead)

    def test_every_set_of_two_stretches(self):
        for mask in EVERY_SET:
            if mask != 0:
                self.hold([[SAME, mask], [turn(mask), SAME]], [])

    def test_nets_with_one_way_and_with_many(self):
        rng = random.Random(1)
        for _ in range(200):
            count = rng.randint(1, 8)
            share = rng.choice([0, 0, 0.1, 0.3])
            self.hold(net_around(rng, drawn_stretches(rng, count, 8), share), drawn_lengths(rng, count))

    def test_nets_that_nothing_fits(self):
        rng = random.Random(2)
        for _ in range(100):
            net = drawn_net(rng, rng.randint(2, 8), rng.choice([0, 0.1, 0.3]), 1)
            self.hold(net, drawn_lengths(rng, len(net)))

    def test_lengths(self):
        for count in range(1, 9):
            net = wide(count)
            for length in ((0, 0), (0, 1), (1, 1), (3, 7), (0, 10 ** 18), (10 ** 18, 10 ** 18)):
                for i in range(count):
                    self.hold(net, [(i,) + length])
                    self.hold(net, [(i,) + length] * 2)
            self.hold(net, [(0, 1, 2), (count - 1, 2, 3), (0, 2, 2), (0, 0, 10 ** 18)])
        self.assertIn((1, 0, 17 * 10 ** 18), bounds(wide(8), [(0, 0, 10 ** 18)]))
        self.assertIn((14, 15, -17 * 10 ** 18), bounds(wide(8), [(7, 10 ** 18, 10 ** 18)]))

    def test_what_was_told_is_the_asker_s_own(self):
        net, lengths = wide(3), [(0, 1, 2)]
        bounds(net, lengths).clear()
        self.hold(net, lengths)
        told = bounds(net, lengths)
        before = list(told)
        lengths.clear()
        net.clear()
        self.assertEqual(told, before)


class Timed(unittest.TestCase):
    def hold(self, points, told_of):
        """Point 12; tells which of the two words came."""
        before = list(told_of)
        told = timed(points, told_of)
        self.assertEqual(told_of, before)
        self.assertIs(type(told), tuple)
        word, thing = told
        self.assertIs(type(thing), list)
        self.assertEqual([type(number) for number in thing], [int] * len(thing))
        if can_be_kept(points, told_of):
            self.assertEqual(word, "times")
            self.assertEqual(len(thing), points)
            self.assertEqual(min(thing), 0)
            self.assertTrue(kept(thing, told_of), (points, told_of, thing))
        else:
            self.assertEqual(word, "ring")
            self.assertTrue(is_ring(thing, told_of), (points, told_of, thing))
        return word

    def test_no_bounds(self):
        for points in range(1, 17):
            self.assertEqual(self.hold(points, []), "times")

    def test_two_points(self):
        for there in range(-3, 4):
            for back in range(-3, 4):
                word = self.hold(2, [(0, 1, there), (1, 0, back)])
                self.assertEqual(word, "times" if there + back >= 0 else "ring")

    def test_two_points_named_several_times(self):
        many = [(0, 1, 9), (1, 0, 9), (0, 1, 2), (1, 0, 5), (0, 1, 4), (1, 0, -2), (0, 1, 3), (1, 0, 8)]
        self.assertEqual(self.hold(2, many), "times")
        self.assertEqual(self.hold(2, list(reversed(many))), "times")
        for place in range(len(many) + 1):
            self.assertEqual(self.hold(2, many[:place] + [(0, 1, 1)] + many[place:]), "ring")
            self.assertEqual(self.hold(2, many[:place] + [(1, 0, -3)] + many[place:]), "ring")

    def test_all_points_in_one_ring(self):
        for points in range(2, 17):
            for step in (1, 3, 5):
                order = sorted(range(points), key=lambda p: p * step * 7 % 17)
                ring = [(order[k], order[(k + 1) % points], -1) for k in range(points - 1)]
                back = (order[-1], order[0])
                self.assertEqual(self.hold(points, ring), "times")
                self.assertEqual(self.hold(points, ring + [back + (points - 1,)]), "times")
                self.assertEqual(self.hold(points, ring + [back + (points - 2,)]), "ring")
                self.assertEqual(self.hold(points, [back + (points - 2,)] + ring[::-1]), "ring")

    def test_a_ring_aside_from_the_other_points(self):
        tail = [(p, p + 1, -5) for p in range(12)]
        self.assertEqual(self.hold(16, tail + [(14, 15, 3), (15, 14, -4)]), "ring")
        self.assertEqual(self.hold(16, tail + [(0, 14, 1), (12, 15, -9), (14, 15, 3), (15, 14, -4)]), "ring")
        self.assertEqual(self.hold(16, tail + [(14, 15, 3), (15, 14, -3)]), "times")

    def test_bounds_that_drawn_times_keep(self):
        rng = random.Random(3)
        for size in (3, 50, 10 ** 18, SIXTY):
            for slack in (0, 1, size):
                for _ in range(40):
                    points = rng.randint(2, 16)
                    times = [rng.randint(-size, size) for _ in range(points)]
                    told_of = []
                    for _ in range(rng.randint(1, 80)):
                        p, q = rng.sample(range(points), 2)
                        told_of.append((p, q, min(SIXTY, times[p] - times[q] + rng.randint(0, slack))))
                    told_of = [bound for bound in told_of if times[bound[0]] - times[bound[1]] <= bound[2]]
                    self.assertEqual(self.hold(points, told_of), "times")

    def test_bounds_that_nothing_keeps(self):
        rng = random.Random(4)
        for size in (3, 50, 10 ** 18, SIXTY // 20):
            for _ in range(60):
                points = rng.randint(2, 16)
                times = [rng.randint(-size, size) for _ in range(points)]
                told_of = []
                for _ in range(rng.randint(0, 60)):
                    p, q = rng.sample(range(points), 2)
                    told_of.append((p, q, times[p] - times[q] + rng.randint(0, 3)))
                order = rng.sample(range(points), rng.randint(2, points))
                short = rng.randrange(len(order))
                for place, p in enumerate(order):
                    q = order[(place + 1) % len(order)]
                    told_of.append((p, q, times[p] - times[q] - (place == short)))
                rng.shuffle(told_of)
                self.assertEqual(self.hold(points, told_of), "ring")

    def test_bounds_drawn_without_more_ado(self):
        rng = random.Random(5)
        seen = {"times": 0, "ring": 0}
        for _ in range(1500):
            points = rng.randint(2, 8)
            low, high = rng.choice([(-2, 4), (-1, 1), (0, 3), (-SIXTY, SIXTY), (-3, 9)])
            told_of = []
            for _ in range(rng.randint(1, 3 * points)):
                told_of.append(tuple(rng.sample(range(points), 2)) + (rng.randint(low, high),))
            seen[self.hold(points, told_of)] += 1
        self.assertGreater(min(seen.values()), 300)

    def test_bounds_of_closed_nets_have_times(self):
        rng = random.Random(6)
        for _ in range(100):
            stretches = drawn_stretches(rng, rng.randint(1, 8), 9)
            net = closed(net_around(rng, stretches, 0.2))
            told_of = bounds(net, [])
            self.assertTrue(kept(points_of(stretches), told_of))
            self.assertEqual(self.hold(2 * len(net), told_of), "times")

    def test_what_was_told_is_the_asker_s_own(self):
        for told_of in ([(0, 1, -1)], [(0, 1, -1), (1, 0, -1)]):
            told = copy.deepcopy(timed(3, told_of))
            timed(3, told_of)[1].append(7)
            self.assertEqual(timed(3, told_of), told)
            answer = timed(3, told_of)
            told_of.clear()
            self.assertEqual(answer, told)


if __name__ == "__main__":
    unittest.main()

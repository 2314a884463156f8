import unittest

from spanways.chains import chained, chained_sets, sample
from spanways.ways import ALL, turned, way_between
from tests.table import EVERY_SET, SAME, chains, members, way

WAYS = range(13)
# Six times show every way in which three stretches can lie; the seventh gives room beyond.
SHOWN = chains(range(7))


def by_single_ways(one, other):
    found = 0
    for first in members(one):
        for second in members(other):
            found |= chained(first, second)
    return found


class Chained(unittest.TestCase):
    def test_every_pair_of_ways_against_all_stretches(self):
        self.assertEqual(len(SHOWN), 169)
        for first in WAYS:
            for second in WAYS:
                self.assertEqual(chained(first, second), SHOWN[first, second], (first, second))

    def test_seven_times_show_no_more_than_six(self):
        self.assertEqual(chains(range(6)), SHOWN)

    def test_some_that_are_known(self):
        self.assertEqual(chained(0, 0), 1)
        self.assertEqual(chained(0, 12), ALL)
        self.assertEqual(chained(1, 1), 1)
        self.assertEqual(chained(1, 11), 1 << 3 | 1 << 6 | 1 << 9)
        self.assertEqual(chained(2, 2), 0b111)
        for number in WAYS:
            self.assertEqual(chained(6, number), 1 << number)
            self.assertEqual(chained(number, 6), 1 << number)


class Sample(unittest.TestCase):
    def test_every_three_of_ways(self):
        for first in WAYS:
            for second in WAYS:
                for third in WAYS:
                    told = sample(first, second, third)
                    if SHOWN[first, second] >> third & 1:
                        self.holds_up(told, first, second, third)
                    else:
                        self.assertIsNone(told, (first, second, third))

    def holds_up(self, told, first, second, third):
        self.assertIs(type(told), list)
        self.assertEqual(len(told), 3)
        for stretch in told:
            self.assertIs(type(stretch), tuple)
            self.assertEqual([type(time) for time in stretch], [int, int])
            self.assertLess(stretch[0], stretch[1])
        one, two, three = told
        for lies in (way_between, way):
            self.assertEqual((lies(one, two), lies(two, three), lies(one, three)), (first, second, third))

    def test_a_changed_sample_changes_no_answer(self):
        for ways in ((6, 6, 6), (0, 12, 4), (8, 4, 12)):
            told = sample(*ways)
            told[0] = told[2] = (0, 0)
            told.pop()
            self.holds_up(sample(*ways), *ways)


class ChainedSets(unittest.TestCase):
    def test_with_the_empty_set(self):
        for mask in EVERY_SET:
            self.assertEqual(chained_sets(0, mask), 0)
            self.assertEqual(chained_sets(mask, 0), 0)

    def test_with_same_alone(self):
        for mask in EVERY_SET:
            self.assertEqual(chained_sets(SAME, mask), mask)
            self.assertEqual(chained_sets(mask, SAME), mask)

    def test_with_all(self):
        self.assertEqual(chained_sets(ALL, ALL), ALL)
        for number in WAYS:
            self.assertEqual(chained_sets(ALL, 1 << number), by_single_ways(ALL, 1 << number))
            self.assertEqual(chained_sets(1 << number, ALL), by_single_ways(1 << number, ALL))

    def test_single_ways(self):
        for first in WAYS:
            for second in WAYS:
                self.assertEqual(chained_sets(1 << first, 1 << second), SHOWN[first, second])

    def test_sets_of_several_ways_against_the_single_ways(self):
        # Two strides without a common factor meet sets of all sizes on both sides.
        for step in range(2000):
            one, other = step * 37 % 8192, step * 4099 % 8192 ^ 0b101
            told = chained_sets(one, other)
            self.assertEqual(told, by_single_ways(one, other), (one, other))
            self.assertEqual(turned(told), chained_sets(turned(other), turned(one)))


if __name__ == "__main__":
    unittest.main()

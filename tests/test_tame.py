import unittest

from spanways.chains import chained_sets
from spanways.tame import hull, tame
from spanways.ways import ALL, turned
from tests.table import EVERY_SET, rectangles

TAME = sorted(rectangles())


class Tame(unittest.TestCase):
    def test_the_empty_set_is_not(self):
        self.assertIs(tame(0), False)

    def test_every_set_against_all_rectangles(self):
        for mask in EVERY_SET:
            self.assertIs(tame(mask), mask in TAME, mask)

    def test_some_that_are_known(self):
        self.assertIs(tame(ALL), True)
        self.assertIs(tame(0b111), True)
        self.assertIs(tame(1 | 1 << 12), False)
        self.assertIs(tame(ALL - 1), True)
        self.assertIs(tame(ALL - (1 << 6)), False)
        self.assertIs(tame(1 << 2 | 1 << 4), False)
        for number in range(13):
            self.assertIs(tame(1 << number), True)

    def test_put_one_behind_the_other(self):
        for one in TAME:
            for other in TAME:
                self.assertIs(tame(chained_sets(one, other)), True, (one, other))

    def test_turned(self):
        for one in TAME:
            self.assertIs(tame(turned(one)), True, one)

    def test_what_two_have_in_common(self):
        for one in TAME:
            for other in TAME:
                common = one & other
                self.assertIs(tame(common), common != 0, (one, other))


class Hull(unittest.TestCase):
    def test_every_set(self):
        for mask in EVERY_SET:
            if mask == 0:
                continue
            told = hull(mask)
            self.assertIn(told, TAME)
            self.assertEqual(told & mask, mask)
            for other in TAME:
                if other & mask == mask:
                    self.assertEqual(told & other, told, (mask, other))

    def test_some_that_are_known(self):
        self.assertEqual(hull(1 | 1 << 12), ALL)
        self.assertEqual(hull(0b101), 0b111)
        # laps and opens end in one zone, their starts' zones are neighbours: nothing comes in between.
        self.assertEqual(hull(1 << 2 | 1 << 5), 1 << 2 | 1 << 5)
        for mask in TAME:
            self.assertEqual(hull(mask), mask)


if __name__ == "__main__":
    unittest.main()

import unittest

from spanways.ways import ALL, turned, way_between, way_words, ways_in, zones
from tests.table import EVERY_SET, LAID, OTHER, TABLE, stretches, way

SIXTY = 10 ** 60 - 1


class Words(unittest.TestCase):
    def test_thirteen_words_in_their_order(self):
        self.assertEqual(way_words(), [
            "ahead", "joins", "laps", "closedby", "holds", "opens", "same",
            "openedby", "within", "closes", "lappedby", "joinedby", "behind",
        ])
        self.assertIs(type(way_words()), list)

    def test_a_changed_list_of_words_changes_no_answer(self):
        told = way_words()
        told[0] = "other"
        told.append("more")
        self.assertEqual(way_words(), [row[0] for row in TABLE])
        way_words().clear()
        self.assertEqual(len(way_words()), 13)
        self.assertEqual(way_between((0, 1), (2, 3)), 0)

    def test_zones_of_each_way(self):
        for number, (word, start, end) in enumerate(TABLE):
            self.assertEqual(zones(number), (start, end), word)
            self.assertIs(type(zones(number)), tuple)


class Between(unittest.TestCase):
    def hold(self, change):
        other = tuple(change(time) for time in OTHER)
        for number, one in enumerate(LAID):
            one = tuple(change(time) for time in one)
            self.assertEqual(way_between(one, other), number, (one, other))
            self.assertEqual(way_between(other, one), 12 - number, (other, one))

    def test_small_times(self):
        self.hold(lambda time: time)

    def test_times_below_0(self):
        self.hold(lambda time: time - 1000)
        self.hold(lambda time: time - 15)

    def test_times_of_sixty_figures(self):
        self.hold(lambda time: SIXTY - 100 + time)
        self.hold(lambda time: -SIXTY + time)
        self.hold(lambda time: (time - 13) * 10 ** 58)

    def test_sixty_figures_that_differ_by_one(self):
        self.assertEqual(way_between((SIXTY - 3, SIXTY - 2), (SIXTY - 1, SIXTY)), 0)
        self.assertEqual(way_between((SIXTY - 2, SIXTY - 1), (SIXTY - 1, SIXTY)), 1)
        self.assertEqual(way_between((-SIXTY, SIXTY), (1 - SIXTY, SIXTY - 1)), 4)
        self.assertEqual(way_between((-SIXTY, SIXTY), (-SIXTY, SIXTY)), 6)
        self.assertEqual(way_between((-SIXTY, SIXTY - 1), (-SIXTY, SIXTY)), 5)

    def test_every_pair_over_a_small_range_lies_as_the_table_tells(self):
        spans = stretches(range(-3, 5))
        shown = set()
        for one in spans:
            for other in spans:
                number = way_between(one, other)
                self.assertIs(type(number), int)
                self.assertEqual(number, way(one, other), (one, other))
                shown.add(number)
        self.assertEqual(shown, set(range(13)))


class Sets(unittest.TestCase):
    def test_all(self):
        self.assertEqual(ALL, 8191)
        self.assertIs(type(ALL), int)

    def test_ways_in_edges(self):
        self.assertEqual(ways_in(0), [])
        self.assertEqual(ways_in(ALL), list(range(13)))
        self.assertEqual(ways_in(0b1000001000001), [0, 6, 12])
        for number in range(13):
            self.assertEqual(ways_in(1 << number), [number])
            self.assertEqual(ways_in(ALL - (1 << number)), [k for k in range(13) if k != number])

    def test_ways_in_every_set_rising_each_once(self):
        for mask in EVERY_SET:
            told = ways_in(mask)
            self.assertEqual(told, sorted(set(told)))
            self.assertEqual(told, [k for k, bit in enumerate(reversed(f"{mask:013b}")) if bit == "1"])

    def test_a_changed_list_of_ways_changes_no_answer(self):
        for mask in (0, 5, ALL):
            told = ways_in(mask)
            before = list(told)
            told.append(7)
            told[0] = 99
            self.assertEqual(ways_in(mask), before)

    def test_turned_every_set(self):
        for mask in EVERY_SET:
            told = turned(mask)
            self.assertEqual(f"{told:013b}", f"{mask:013b}"[::-1])
            self.assertEqual(turned(told), mask)

    def test_turned_way_of_two_stretches_the_other_way_about(self):
        spans = stretches(range(6))
        for one in spans:
            for other in spans:
                self.assertEqual(turned(1 << way_between(one, other)), 1 << way_between(other, one))


if __name__ == "__main__":
    unittest.main()

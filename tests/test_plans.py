import copy
import random
import unittest

from spanways.nets import rounded
from spanways.plans import planned
from spanways.trees import follows
from tests.oracle import (
    ALL, all_kept, closed, drawn_facts, drawn_stretches, facts_kept_by, is_tree, lie_in, next_split, plan, shape,
    short_facts, short_places, spoil, starting_net, tight_facts, too_many_in_one, turn,
)
from tests.table import members, rectangles, way

TAME = sorted(rectangles())


class Planned(unittest.TestCase):
    def laid(self, count, facts, told):
        self.assertEqual(told[0], "laid")
        plan_told = told[1]
        self.assertIs(type(plan_told), list)
        self.assertEqual(len(plan_told), count)
        for stretch in plan_told:
            self.assertIs(type(stretch), tuple)
            self.assertEqual([type(time) for time in stretch], [int, int])
            self.assertLess(stretch[0], stretch[1])
            self.assertLess(stretch[1], 10 ** 30)
        self.assertEqual(min(stretch[0] for stretch in plan_told), 0)
        self.assertTrue(all_kept(plan_told, facts), (facts, plan_told))

    def ask(self, count, facts, *most):
        """What is told, once its form is seen to be that of point 15 and nothing handed in is changed."""
        before = copy.deepcopy(facts)
        told = planned(count, facts, *most)
        self.assertEqual(facts, before)
        self.assertIs(type(told), tuple)
        self.assertEqual(len(told), 3)
        self.assertIs(type(told[2]), int)
        if told[0] == "laid":
            self.laid(count, facts, told)
        elif told[0] == "clash":
            self.assertTrue(is_tree(count, facts, told[1]))
            self.assertIs(follows(count, facts, told[1]), True)
        else:
            self.assertEqual(told[:2], ("open", None))
        return told

    def hold(self, count, facts, most):
        """The search goes as point 14 tells it: the same word, the same splits, in the same order."""
        told = self.ask(count, facts, most)
        word, thing, splits = plan(count, facts, most)
        self.assertEqual((told[0], told[2]), (word, splits), facts)
        if word == "laid":
            self.assertTrue(lie_in(thing, told[1]))
        elif word == "clash":
            self.assertEqual(shape(told[1]), thing)
        return told

    def test_no_facts(self):
        for count in range(1, 9):
            told = self.hold(count, [], 200)
            self.assertEqual(told[0], "laid")
            # The least way is the first one tried, and nothing speaks against it.
            self.assertEqual(told[2], count * (count - 1) // 2)
            for i in range(count):
                for j in range(i + 1, count):
                    self.assertEqual(way(told[1][i], told[1][j]), 0)

    def test_a_set_that_is_empty(self):
        self.assertEqual(planned(2, [("ways", 0, 0, 1)]), ("clash", ("threes", []), 0))
        self.assertEqual(planned(8, [("ways", 7, 0, 3), ("long", 0, 1, 1)]), ("clash", ("threes", []), 0))

    def test_each_way_alone(self):
        for number in range(13):
            for i, j in ((0, 1), (1, 0), (2, 0)):
                told = self.hold(3, [("ways", i, 1 << number, j)], 200)
                self.assertEqual(way(told[1][i], told[1][j]), number)

    def test_ways_of_a_set_are_tried_the_least_first(self):
        self.assertEqual(way(*self.hold(2, [("ways", 0, 0b1010100, 1)], 200)[1]), 2)
        self.assertEqual(way(*self.hold(2, [("ways", 1, 0b1010100, 0)], 200)[1]), 6)
        # 1 is as long as 0 or longer, so 0 can not hold it, nor be opened or closed by it.
        facts = [("ways", 0, 0b11110011000, 1), ("long", 0, 2, 2), ("long", 1, 2, 3)]
        told = self.hold(2, facts, 200)
        self.assertEqual((way(*told[1]), told[2]), (8, 1))

    def test_sets_are_split_by_i_then_j(self):
        told = self.hold(3, [("ways", 0, 1 << 6, 1), ("ways", 2, 0b11, 1)], 200)
        self.assertEqual((told[2], way(told[1][0], told[1][2])), (1, 11))
        # (0, 1) is split ahead of (0, 2) and (1, 2): no way but the last one goes with the lengths.
        facts = [("long", 0, 1, 1), ("long", 1, 1, 1), ("long", 2, 9, 9), ("ways", 0, 1 << 5 | 1 << 7 | 1 << 10, 1)]
        self.assertEqual(way(*self.hold(3, facts, 200)[1][:2]), 10)

    def test_groups_are_split_ahead_of_sets_in_their_order(self):
        late, early = ("ways", 0, 1 << 12, 1), ("ways", 0, 1, 1)
        for group, number in (([late, early], 12), ([early, late], 0)):
            told = self.hold(2, [("one", group)], 200)
            self.assertEqual((way(*told[1]), told[2]), (number, 1))
        one = ("one", [("ways", 0, 1 | 1 << 12, 1), ("ways", 0, 1 << 6, 1)])
        other = ("one", [("ways", 0, 1 << 6 | 1 << 12, 1), ("ways", 1, 1 << 12, 0)])
        told = self.hold(2, [one, ("long", 0, 1, 1), other], 200)
        self.assertEqual((way(*told[1]), told[2]), (12, 2))
        told = self.hold(2, [other, ("long", 0, 1, 1), one], 200)
        self.assertEqual((way(*told[1]), told[2]), (12, 2))

    def test_just_one_member_of_a_group_is_so(self):
        # Both or none of the two is so where they are alike.
        twin = ("ways", 0, 0b111, 1)
        told = self.ask(2, [("one", [twin, twin])], 200)
        self.assertEqual(told, ("clash", ("one", [], [("threes", []), ("threes", [])]), 1))
        self.assertEqual(self.ask(2, [("one", [twin, ("ways", 1, turn(0b111), 0)])], 200)[0], "clash")
        told = self.hold(2, [("one", [twin, twin, ("ways", 0, 1 << 8, 1)])], 200)
        self.assertEqual(way(*told[1]), 8)
        told = self.hold(2, [("one", [twin, ("ways", 0, 0b110, 1)])], 200)
        self.assertEqual((way(*told[1]), told[2]), (0, 1))
        told = self.hold(2, [("one", [("ways", 0, 0b011, 1), ("ways", 0, 0b111, 1)])], 200)
        self.assertEqual((way(*told[1]), told[2]), (2, 1))

    def test_a_group_of_one(self):
        told = self.hold(2, [("one", [("ways", 0, 1 << 4, 1)])], 200)
        self.assertEqual((way(*told[1]), told[2]), (4, 1))
        told = self.hold(2, [("one", [("ways", 0, 0, 1)])], 200)
        self.assertEqual(told, ("clash", ("one", [], [("threes", [])]), 1))

    def test_two_alike_facts(self):
        group = ("one", [("ways", 0, 0b1, 1), ("ways", 1, 0b1, 0), ("ways", 0, 1 << 6, 1)])
        for fact in (("ways", 0, 0b110, 1), ("long", 1, 3, 4), group):
            self.assertEqual(self.hold(2, [fact, fact], 200)[0], "laid")

    def test_six_groups_of_six_in_sixty_facts(self):
        rng = random.Random(1)
        for _ in range(4):
            facts = [fact for fact in facts_kept_by(rng, drawn_stretches(rng, 8, 60), 40, 14, 0)]
            for _ in range(6):
                group = []
                while len(group) < 6:
                    group += facts_kept_by(rng, drawn_stretches(rng, 8, 60), 1, 0, 0)
                facts.append(("one", group))
            self.assertEqual(len(facts), 60)
            self.hold(8, facts, 60)

    def test_facts_that_drawn_stretches_keep_never_clash(self):
        rng = random.Random(2)
        words = []
        for _ in range(150):
            count = rng.randint(1, 8)
            laid = drawn_stretches(rng, count, rng.choice([12, 40, 1000]))
            groups = rng.choice([0, 0, 1, 3, 6])
            if count == 1:
                facts = facts_kept_by(rng, laid, 0, rng.randint(0, 3), 0)
            else:
                facts = facts_kept_by(rng, laid, rng.randint(0, 25), rng.randint(0, 10), groups)
            self.assertTrue(all_kept(laid, facts))
            words.append(self.ask(count, facts, 1000)[0])
        self.assertNotIn("clash", words)
        self.assertGreater(words.count("laid"), 140)

    def test_drawn_facts(self):
        rng = random.Random(3)
        seen = {}
        for _ in range(250):
            count = rng.choice([2, 3, 3, 4, 5, 8])
            ways, lengths = rng.randint(0, 2 * count), rng.randint(0, count + 1)
            told = self.hold(count, drawn_facts(rng, count, ways, lengths, rng.choice([0, 0, 1, 2, 3])), 30)
            word = told[1][0] if told[0] == "clash" else told[0]
            seen[word] = seen.get(word, 0) + 1
        self.assertGreater(min(seen.get(word, 0) for word in ("laid", "threes", "ring", "one")), 4, seen)

    def test_stretches_that_hardly_have_room(self):
        rng = random.Random(9)
        seen = {}
        for _ in range(100):
            count = rng.choice([3, 4, 4, 5, 6])
            told = self.hold(count, tight_facts(rng, count, rng.choice([0, 0, 1, 2])), 25)
            word = told[1][0] if told[0] == "clash" else told[0]
            seen[word] = seen.get(word, 0) + 1
        self.assertGreater(min(seen.get(word, 0) for word in ("laid", "open", "one", "split")), 4, seen)

    def test_against_all_stretches_of_some_grains(self):
        rng = random.Random(4)
        seen = {"laid": 0, "clash": 0}
        for _ in range(60):
            facts = short_facts(rng)
            told = self.hold(2, facts, 200)
            self.assertEqual(told[0] == "laid", any(all_kept(place, facts) for place in short_places()), facts)
            seen[told[0]] += 1
        self.assertGreater(min(seen.values()), 10, seen)

    def test_where_there_are_no_splits_to_be_made_most_may_be_0(self):
        self.assertEqual(self.ask(1, [("long", 0, 3, 3)], 0)[0], "laid")
        self.assertEqual(self.ask(2, [("ways", 0, 1, 1)], 0)[0], "laid")
        self.assertEqual(self.ask(2, [("ways", 0, 1, 1), ("ways", 0, 2, 1)], 0)[0], "clash")
        self.assertEqual(self.ask(2, [], 0), ("open", None, 0))
        self.assertEqual(self.ask(1, [("long", 0, 0, 0)], 0)[1][0], "ring")

    def test_open_with_one_split_fewer_than_were_made(self):
        rng = random.Random(5)
        seen = {"laid": 0, "clash": 0}
        for _ in range(60):
            count = rng.randint(2, 5)
            if rng.random() < 0.5:
                facts = tight_facts(rng, count, rng.choice([0, 1]))
            else:
                facts = drawn_facts(rng, count, rng.randint(0, count), rng.randint(0, count), rng.choice([0, 1, 2]))
            told = planned(count, facts, 1000)
            self.assertNotEqual(told[0], "open")
            if told[2] > 0:
                seen[told[0]] += 1
                self.assertEqual(planned(count, facts, told[2]), told)
                for fewer in {0, told[2] // 2, told[2] - 1}:
                    self.assertEqual(self.ask(count, facts, fewer), ("open", None, fewer))
        self.assertGreater(min(seen.values()), 5, seen)

    def test_most_is_200_where_it_is_left_out(self):
        facts = too_many_in_one(6, 4)
        told = self.hold(6, facts, 1000)
        self.assertEqual(told[0], "clash")
        self.assertGreater(told[2], 200)
        self.assertEqual(planned(6, facts), ("open", None, 200))
        self.assertEqual(planned(6, facts, most=200), ("open", None, 200))
        self.assertEqual(planned(6, facts, told[2] - 1), ("open", None, told[2] - 1))
        self.assertEqual(planned(6, facts, told[2]), told)

    def test_a_thousand_splits(self):
        self.assertEqual(self.ask(8, too_many_in_one(8, 6), 1000), ("open", None, 1000))

    def test_lengths_that_just_fit_and_that_just_do_not(self):
        # Two joined ones of 1 fill one of 2; a gap of one grain is one too many, and so is a grain at an edge.
        for first, last, between, word in (
                (5, 9, 1, "laid"), (5, 9, 0, "clash"), (8, 9, 1, "clash"), (5, 8, 1, "clash"), (5, 9, 2, "clash")):
            facts = [("long", 0, 1, 1), ("long", 1, 1, 1), ("long", 2, 2, 2)]
            facts += [("ways", 0, 1 << first, 2), ("ways", 1, 1 << last, 2), ("ways", 0, 1 << between, 1)]
            self.assertEqual(self.hold(3, facts, 200)[0], word, facts)
            if between != 2:
                facts[2] = ("long", 2, 2, 3)
                self.assertEqual(self.hold(3, facts, 200)[0], "laid", facts)

    def test_a_nest_of_eight(self):
        # 0 is 1 long: 17 grains. Each next one is at least 2 grains longer: 31 at the end, and 2 long is 34.
        nest = [("ways", k, 1 << 8, k + 1) for k in range(7)]
        for low, high, word in ((0, 1, "clash"), (1, 1, "clash"), (0, 2, "laid"), (2, 2, "laid")):
            self.assertEqual(self.hold(8, nest + [("long", 0, 1, 1), ("long", 7, low, high)], 200)[0], word)

    def test_a_length_of_0(self):
        for count in (1, 3):
            told = self.hold(count, [("long", count - 1, 0, 0)], 200)
            self.assertEqual(told[0], "clash")
            self.assertEqual(told[1][:2], ("ring", []))
            self.assertEqual(self.hold(count, [("long", count - 1, 0, 1)], 200)[0], "laid")

    def test_lengths_that_leave_nothing_together(self):
        self.assertEqual(self.hold(2, [("long", 0, 1, 2), ("long", 0, 3, 4)], 200)[0], "clash")
        told = self.hold(2, [("long", 0, 1, 3), ("long", 0, 3, 4)], 200)
        self.assertEqual(told[1][0][1] - told[1][0][0], 15)

    def test_the_longest_lengths(self):
        far = 10 ** 18
        facts = [("long", i, far, far) for i in range(8)] + [("ways", i, 2, i + 1) for i in range(7)]
        told = self.hold(8, facts, 200)
        self.assertEqual(told[1], [(17 * far * i, 17 * far * (i + 1)) for i in range(8)])
        facts = [("long", 0, far - 1, far - 1), ("long", 1, 1, 1), ("long", 2, far, far)]
        facts += [("ways", 0, 1 << 5, 2), ("ways", 1, 1 << 9, 2)]
        self.assertEqual(way(*self.hold(3, facts, 200)[1][:2]), 1)
        facts[1] = ("long", 1, 0, 0)
        self.assertEqual(self.hold(3, facts, 200)[0], "clash")

    def test_what_was_told_is_the_asker_s_own(self):
        group = [("ways", 0, 1, 1), ("ways", 1, 1, 2)]
        for facts in (
                [("one", list(group))], [("one", list(group)), ("long", 0, 0, 0)],
                [("one", list(group)), ("ways", 0, 2, 1), ("ways", 1, 2, 2)], [("ways", 0, 0, 1)]):
            told = copy.deepcopy(planned(3, facts))
            spoil(planned(3, facts)[1])
            self.assertEqual(planned(3, facts), told)
            answer = planned(3, facts)
            if facts[0][0] == "one":
                facts[0][1].clear()
            facts.clear()
            self.assertEqual(answer, told)


class TameFacts(unittest.TestCase):
    """Point 18."""

    def drawn(self, rng):
        count = rng.randint(2, 8)
        facts = []
        laid = drawn_stretches(rng, count, 10)
        for _ in range(rng.randint(0, 3 * count)):
            i, j = rng.sample(range(count), 2)
            lies = 1 << way(laid[i], laid[j]) if rng.random() < 0.8 else 0
            facts.append(("ways", i, rng.choice([mask for mask in TAME if mask & lies == lies]), j))
        return count, facts

    def first_branches(self, net):
        """How many splits there are where the first branch of each never clashes."""
        splits = 0
        while next_split(net, []) is not None:
            net = closed(next_split(net, [])[1][0])
            self.assertIsNotNone(net)
            splits += 1
        return splits

    def test_a_plan_just_where_rounding_does_not_end_empty(self):
        rng = random.Random(6)
        seen = {"laid": 0, "clash": 0}
        for _ in range(250):
            count, facts = self.drawn(rng)
            word, thing, splits = planned(count, facts)
            end = closed(starting_net(count, facts))
            self.assertEqual(word, "clash" if end is None else "laid")
            self.assertEqual(end, rounded(starting_net(count, facts))[0])
            self.assertLessEqual(splits, count * (count - 1) // 2)
            if word == "clash":
                self.assertEqual((thing[0], splits), ("threes", 0))
            else:
                self.assertTrue(all_kept(thing, facts))
                self.assertEqual(splits, self.first_branches(end))
            seen[word] += 1
        self.assertGreater(min(seen.values()), 40, seen)

    def test_each_way_of_the_closed_net_is_so_in_some_plan(self):
        rng = random.Random(7)
        asked = 0
        for _ in range(40):
            count, facts = self.drawn(rng)
            end = rounded(starting_net(count, facts))[0]
            if end is None:
                continue
            i, j = rng.sample(range(count), 2)
            for number in members(end[i][j]):
                word, thing, splits = planned(count, facts + [("ways", i, 1 << number, j)])
                self.assertEqual(word, "laid")
                self.assertTrue(all_kept(thing, facts))
                self.assertEqual(way(thing[i], thing[j]), number)
                self.assertLessEqual(splits, count * (count - 1) // 2)
                asked += 1
            for number in members(ALL - end[i][j]):
                self.assertEqual(planned(count, facts + [("ways", i, 1 << number, j)])[0], "clash")
        self.assertGreater(asked, 100)

    def test_facts_that_are_not_tame_may_clash_where_rounding_does_not_end_empty(self):
        facts = non_tame_clash()
        self.assertIsNotNone(rounded(starting_net(4, facts))[0])
        self.assertEqual(planned(4, facts)[0], "clash")


def non_tame_clash():
    """Four stretches whose closed net is not empty, but which nothing fits."""
    rng = random.Random(8)
    while True:
        facts = []
        for i in range(4):
            for j in range(i + 1, 4):
                facts.append(("ways", i, sum({1 << rng.randrange(13) for _ in range(3)}), j))
        if closed(starting_net(4, facts)) is not None and plan(4, facts, 200)[0] == "clash":
            return facts


if __name__ == "__main__":
    unittest.main()

import copy
import random
import unittest

from spanways.asking import asked
from spanways.plans import planned
from spanways.trees import follows
from tests.oracle import (
    ALL, all_kept, arrangements_keeping, clash_of, closed, drawn_facts, drawn_mask, drawn_pair, drawn_stretches,
    is_tree, plan, short_facts, short_places, spoil, starting_net, tight_facts, turn,
)
from tests.table import rectangles, way

TAME = sorted(rectangles())
EXCHANGED = {"must": "never", "never": "must", "may": "may", "clash": "clash", "open": "open"}
WORDS = sorted(EXCHANGED)


def word_of(yes, no):
    """By what planned tells with the set, and with what is not in it: laid, clash or open."""
    if "open" in (yes, no):
        return "open"
    return {
        ("laid", "laid"): "may", ("laid", "clash"): "must", ("clash", "laid"): "never", ("clash", "clash"): "clash",
    }[yes, no]


def word_by(laid, i, mask, j):
    """By all ways in which the stretches can lie: whether one is in the set, and one in none of it."""
    inside = {mask >> way(one[i], one[j]) & 1 for one in laid}
    return word_of("laid" if 1 in inside else "clash", "laid" if 0 in inside else "clash")


def both_facts(facts, i, mask, j):
    return facts + [("ways", i, mask, j)], facts + [("ways", i, ALL - mask, j)]


class Asked(unittest.TestCase):
    def tree_shows(self, count, facts, tree):
        self.assertIs(type(tree), tuple)
        self.assertTrue(is_tree(count, facts, tree))
        self.assertIs(follows(count, facts, tree), True)

    def plan_keeps(self, count, facts, laid):
        self.assertIs(type(laid), list)
        self.assertEqual(len(laid), count)
        self.assertTrue(all_kept(laid, facts))

    def two_shown(self, count, sides, thing, shown):
        self.assertIs(type(thing), tuple)
        self.assertEqual(len(thing), 2)
        for facts, part in zip(sides, thing):
            shown(count, facts, part)

    def ask(self, count, facts, i, mask, j, *most):
        """The word, once what is told beside it is seen to show it and nothing handed in is changed."""
        before = copy.deepcopy(facts)
        told = asked(count, facts, i, mask, j, *most)
        self.assertEqual(facts, before)
        self.assertIs(type(told), tuple)
        self.assertEqual(len(told), 2)
        word, thing = told
        sides = both_facts(facts, i, mask, j)
        if word == "may":
            self.two_shown(count, sides, thing, self.plan_keeps)
            self.assertEqual([mask >> way(laid[i], laid[j]) & 1 for laid in thing], [1, 0])
        elif word == "clash":
            self.two_shown(count, sides, thing, self.tree_shows)
        elif word == "must":
            self.tree_shows(count, sides[1], thing)
        elif word == "never":
            self.tree_shows(count, sides[0], thing)
        else:
            self.assertEqual(told, ("open", None))
        return word

    def hold(self, count, facts, i, mask, j, most):
        """The word that the plain search tells."""
        told = [plan(count, side, most)[0] for side in both_facts(facts, i, mask, j)]
        word = self.ask(count, facts, i, mask, j, most)
        self.assertEqual(word, word_of(*told), (facts, i, mask, j, most))
        return word, told

    def test_each_of_the_five_words(self):
        facts = [("ways", 0, 0b11, 1)]
        self.assertEqual(asked(2, facts, 0, 0b11, 1), ("must", ("threes", [])))
        self.assertEqual(asked(2, facts, 0, 0b111, 1), ("must", ("threes", [])))
        self.assertEqual(asked(2, facts, 0, 0b1100, 1), ("never", ("threes", [])))
        word, plans = asked(2, facts, 0, 0b101, 1)
        self.assertEqual((word, [way(*laid) for laid in plans]), ("may", [0, 1]))
        word, plans = asked(2, facts, 0, 0b110, 1)
        self.assertEqual((word, [way(*laid) for laid in plans]), ("may", [1, 0]))
        self.assertEqual(asked(2, facts + [("ways", 1, 0b11, 0)], 0, 1, 1), ("clash", (("threes", []), ("threes", []))))
        self.assertEqual(asked(2, facts, 0, 0b11, 1, 0), ("open", None))
        for mask in (0b11, 0b111, 0b1100, 0b101, 0b110):
            self.ask(2, facts, 0, mask, 1)

    def test_a_chain_of_eight(self):
        facts = [("ways", k, 0b11, k + 1) for k in range(7)]
        self.assertEqual(self.ask(8, facts, 0, 1, 7), "must")
        self.assertEqual(self.ask(8, facts, 7, 1 << 12, 0), "must")
        self.assertEqual(self.ask(8, facts, 7, 1, 0), "never")
        self.assertEqual(self.ask(8, facts, 3, 1, 4), "may")

    def test_lengths_tell_what_must_be(self):
        facts = [("long", 0, 3, 4), ("long", 1, 1, 2)]
        self.assertEqual(self.ask(2, facts, 0, 1 << 4, 1), "may")
        self.assertEqual(self.ask(2, facts, 0, 1 << 5 | 1 << 6 | 1 << 8 | 1 << 9, 1), "never")
        self.assertEqual(self.ask(2, facts, 1, ALL & ~(1 << 3 | 1 << 4 | 1 << 6 | 1 << 7), 0), "must")
        facts.append(("long", 0, 5, 5))
        self.assertEqual(self.ask(2, facts, 0, 1, 1), "clash")

    def test_a_group_tells_what_must_be(self):
        facts = [("one", [("ways", 0, 1, 1), ("ways", 1, 1, 2)]), ("ways", 1, 1, 2)]
        self.assertEqual(self.ask(3, facts, 0, 1, 1), "never")
        self.assertEqual(self.ask(3, facts, 0, ALL - 1, 1), "must")
        self.assertEqual(self.ask(3, facts[:1], 0, 1, 1), "may")

    def test_two_stretches_against_all_ways(self):
        rng = random.Random(1)
        seen = dict.fromkeys(WORDS, 0)
        for _ in range(120):
            facts = drawn_facts(rng, 2, rng.choice([0, 1, 1, 2]), 0, rng.choice([0, 0, 1, 2]))
            laid = arrangements_keeping(2, facts)
            for mask in (0, ALL, 1 << rng.randrange(13), drawn_mask(rng, 0.3), drawn_mask(rng, 0.7)):
                i, j = drawn_pair(rng, 2)
                word = self.ask(2, facts, i, mask, j, 1000)
                self.assertEqual(word, word_by(laid, i, mask, j), (facts, i, mask, j))
                seen[word] += 1
        self.assertGreater(min(seen[word] for word in ("must", "may", "never", "clash")), 20, seen)

    def test_two_stretches_against_all_times_of_some_grains(self):
        rng = random.Random(2)
        seen = dict.fromkeys(WORDS, 0)
        for _ in range(40):
            facts = short_facts(rng)
            laid = [place for place in short_places() if all_kept(place, facts)]
            for mask in (1 << rng.randrange(13), drawn_mask(rng, 0.2), drawn_mask(rng, 0.8)):
                word = self.ask(2, facts, 0, mask, 1, 1000)
                self.assertEqual(word, word_by(laid, 0, mask, 1), (facts, mask))
                seen[word] += 1
        self.assertGreater(min(seen[word] for word in ("must", "may", "never", "clash")), 5, seen)

    def test_three_stretches_against_all_ways(self):
        rng = random.Random(3)
        seen = dict.fromkeys(WORDS, 0)
        for turn_number in range(60):
            lengths = rng.randint(1, 4) if turn_number % 2 else 0
            facts = drawn_facts(rng, 3, rng.randint(1, 4), lengths, rng.choice([0, 0, 1, 2]))
            laid = arrangements_keeping(3, facts)
            for _ in range(3):
                i, j = drawn_pair(rng, 3)
                mask = drawn_mask(rng, rng.choice([0.1, 0.5, 0.9]))
                word = self.ask(3, facts, i, mask, j, 1000)
                self.assertEqual(word, word_by(laid, i, mask, j), (facts, i, mask, j))
                seen[word] += 1
        self.assertGreater(min(seen[word] for word in ("must", "may", "never", "clash")), 8, seen)

    def test_open_just_where_one_of_the_two_is_open(self):
        rng = random.Random(4)
        seen = {}
        for _ in range(250):
            count = rng.randint(2, 5)
            if rng.random() < 0.5:
                facts = tight_facts(rng, count, rng.choice([0, 1]))
            else:
                facts = drawn_facts(rng, count, rng.randint(0, count), rng.randint(0, count), rng.choice([0, 1]))
            i, j = drawn_pair(rng, count)
            mask = drawn_mask(rng, rng.choice([0.1, 0.5, 0.9]))
            word, told = self.hold(count, facts, i, mask, j, rng.choice([0, 1, 2, 3, 5, 8, 13]))
            seen[tuple(told)] = seen.get(tuple(told), 0) + 1
        self.assertEqual(len(seen), 9, seen)
        self.assertGreater(min(seen.values()), 1, seen)

    def test_the_fact_of_the_question_stands_behind_the_facts(self):
        # As a fact of kind ways it narrows the first net; the group is split in that net, so it makes no split more.
        facts = [("one", [("ways", 0, 1, 1), ("ways", 0, 2, 1)]), ("long", 0, 1, 1)]
        for mask in (1, 2, 3, 4):
            for most in (0, 1, 2):
                self.hold(2, facts, 0, mask, 1, most)

    def test_the_set_exchanged_for_what_is_not_in_it(self):
        rng = random.Random(5)
        seen = dict.fromkeys(WORDS, 0)
        for _ in range(150):
            count = rng.randint(2, 5)
            facts = drawn_facts(rng, count, rng.randint(0, 2 * count), rng.randint(0, 3), rng.choice([0, 0, 1]))
            i, j = drawn_pair(rng, count)
            mask = drawn_mask(rng, rng.choice([0.1, 0.5, 0.9]))
            most = rng.choice([1, 4, 200])
            word = self.ask(count, facts, i, mask, j, most)
            self.assertEqual(self.ask(count, facts, i, ALL - mask, j, most), EXCHANGED[word])
            self.assertEqual(self.ask(count, facts, j, turn(mask), i, most), word)
            seen[word] += 1
        self.assertGreater(min(seen.values()), 5, seen)

    def test_a_set_of_0_and_all(self):
        rng = random.Random(6)
        seen = {"laid": 0, "clash": 0, "open": 0}
        for _ in range(60):
            count = rng.randint(2, 4)
            facts = drawn_facts(rng, count, rng.randint(0, 2 * count), rng.randint(0, 2), rng.choice([0, 1]))
            i, j = drawn_pair(rng, count)
            most = rng.choice([1, 200])
            word = planned(count, facts, most)[0]
            seen[word] += 1
            empty = {"laid": "never", "clash": "clash", "open": "open"}[word]
            self.assertEqual(self.ask(count, facts, i, 0, j, most), empty)
            self.assertEqual(self.ask(count, facts, i, ALL, j, most), EXCHANGED[empty])
        self.assertGreater(min(seen.values()), 5, seen)

    def test_fifty_nine_facts_with_six_groups(self):
        facts = [("ways", k % 7, 0b11, k % 7 + 1) for k in range(53)]
        facts += [("one", [("ways", 0, 1, k), ("ways", k, 1, 0)]) for k in range(2, 8)]
        self.assertEqual(len(facts), 59)
        self.assertEqual(self.ask(8, facts, 1, 0b1, 7), "must")
        self.assertEqual(self.ask(8, facts, 1, 0b1, 2), "may")

    def test_the_longest_lengths(self):
        far = 10 ** 18
        facts = [("long", 0, far, far), ("long", 1, far, far)]
        self.assertEqual(self.ask(2, facts, 0, 1 << 6, 1), "may")
        self.assertEqual(self.ask(2, facts, 0, 1 << 4 | 1 << 8, 1), "never")
        facts[1] = ("long", 1, far - 1, far - 1)
        self.assertEqual(self.ask(2, facts, 0, 1 << 6, 1), "never")

    def test_most_is_200_where_it_is_left_out(self):
        for splits, word in ((200, "clash"), (201, "open")):
            facts = clash_of(splits)
            self.assertEqual(planned(6, facts, 1000)[::2], ("clash", splits))
            self.assertEqual(asked(6, facts, 0, ALL, 1)[0], word)
            self.assertEqual(asked(6, facts, 0, 0, 1)[0], word)
            self.assertEqual(asked(6, facts, 0, ALL, 1, most=splits)[0], "clash")
            self.assertEqual(asked(6, facts, 0, ALL, 1, splits - 1), ("open", None))

    def test_what_was_told_is_the_asker_s_own(self):
        group = [("ways", 0, 1, 1), ("ways", 1, 1, 2)]
        for facts in ([("one", list(group))], [("one", list(group)), ("long", 0, 0, 0)], [("ways", 0, 0b11, 1)]):
            for mask in (0, 1, 0b11, 0b1100, ALL):
                handed = copy.deepcopy(facts)
                told = copy.deepcopy(asked(3, handed, 0, mask, 1))
                spoil(asked(3, handed, 0, mask, 1))
                self.assertEqual(asked(3, handed, 0, mask, 1), told)
                answer = asked(3, handed, 0, mask, 1)
                spoil(handed)
                self.assertEqual(answer, told)


class TameFacts(unittest.TestCase):
    """Point 18, by questions."""

    def test_the_closed_net_answers(self):
        rng = random.Random(7)
        seen = dict.fromkeys(WORDS, 0)
        for _ in range(60):
            count = rng.randint(2, 6)
            laid = drawn_stretches(rng, count, 10)
            facts = []
            for _ in range(rng.randint(0, 2 * count)):
                i, j = drawn_pair(rng, count)
                lies = 1 << way(laid[i], laid[j]) if rng.random() < 0.9 else 0
                facts.append(("ways", i, rng.choice([mask for mask in TAME if mask & lies == lies]), j))
            end = closed(starting_net(count, facts))
            i, j = drawn_pair(rng, count)
            for mask in [1 << number for number in range(13)] + [ALL - 1 if end is None else end[i][j]]:
                word = asked(count, facts, i, mask, j, 1000)[0]
                seen[word] += 1
                if end is None:
                    self.assertEqual(word, "clash")
                else:
                    self.assertEqual(word == "never", end[i][j] & mask == 0)
                    self.assertEqual(word == "must", end[i][j] & ~mask == 0)
        self.assertEqual(seen["open"], 0)
        self.assertGreater(min(seen[word] for word in ("must", "may", "never", "clash")), 10, seen)


if __name__ == "__main__":
    unittest.main()

import copy
import random
import unittest

from spanways.errors import BadText
from spanways.texts import read, written
from tests.oracle import ALL, spoil
from tests.reading import NAMES, WORDS, drawn_told, text_of, told_by

HEAD = ["stretch a", "stretch b", "stretch ahead", "stretch abcdefgh"]
FACTS = [
    "ways a ahead b", "long a 0 7", "one a joins b or b same ahead", "ways ahead ahead abcdefgh",
    "long abcdefgh 1000000000000000000 1000000000000000000", "one abcdefgh " + " ".join(WORDS) + " a",
]
# Rows that can stand nowhere in a text whose stretches are those of HEAD or fewer.
BAD_WORDS = [
    "", " ", "  ", "stretch", "ways", "long", "one", "or", "fact a b", "ahead", "a ahead b", "a", "#", "Ways a ahead b",
    "WAYS a ahead b", "way a ahead b", "wayss a ahead b", "Stretch c", "STRETCH c", "stretches c", "length a 0 1",
    "Long a 0 1", "One a ahead b", "ones a ahead b", "one: a ahead b", "ways, a ahead b", "~",
]
BAD_STRETCHES = [
    "stretch ", "stretch  c", "stretch c ", " stretch c", "stretch c d", "stretch C", "stretch cD", "stretch c1",
    "stretch c_d", "stretch c-d", "stretch abcdefghi", "stretch or", "stretch 1", "stretch ~", "stretch c.",
    "stretch a ahead b", "stretch " + "c" * 9, "stretch " + "c" * 5000,
]
BAD_WAYS = [
    "ways a ahead b ", " ways a ahead b", "ways  a ahead b", "ways a  ahead b", "ways a ahead  b",
    "ways a ahead joins  b", "ways a b", "ways a", "ways ahead", "ways a ahead", "ways ahead b",
    "ways a joins ahead b", "ways a behind ahead b",
    "ways a ahead ahead b", "ways a ahead joins ahead b", "ways a joins joins b", "ways a Ahead b", "ways a AHEAD b",
    "ways a ahea b", "ways a aheads b", "ways a nothing b", "ways a 0 b", "ways a b b", "ways a a b", "ways a or b",
    "ways a ahead a", "ways b behind b", "ways ahead ahead ahead", "ways c ahead b", "ways a ahead c", "ways c ahead d",
    "ways A ahead b", "ways a ahead B", "ways a ahead or", "ways or ahead b", "ways a ahead b or a joins b",
    "ways a ahead b b", "ways a a ahead b", "ways a ahead b a", "ways a ahead, joins b", "ways a ahead..behind b",
    "ways a ahead laps joins b", "ways a " + " ".join(WORDS[::-1]) + " b", "ways a " + " ".join(WORDS) + " behind b",
    "ways a ahead " + " ".join(WORDS) + " b", "ways a ahead 3 b", "ways abcdefghi ahead b",
]
BAD_LENGTHS = [
    "long a 0 7 ", " long a 0 7", "long  a 0 7", "long a  0 7", "long a 0  7", "long a 0", "long a", "long 0 7",
    "long a 0 7 8", "long a 0 7 a", "long a 0 7 or a 0 8", "long a b 0 7", "long c 0 7", "long A 0 7", "long or 0 7",
    "long a 00 7", "long a 07 7", "long a 0 07", "long a 01 1", "long a 1 01", "long a 000 000", "long a +0 7",
    "long a 0 +7", "long a -0 7", "long a -1 7", "long a 0 -7", "long a -7 -7", "long a 8 7", "long a 1 0",
    "long a 10 9", "long a 1000000000000000000 999999999999999999", "long a 0 1000000000000000001",
    "long a 1000000000000000001 1000000000000000001", "long a 0 9999999999999999999",
    "long a 0 10000000000000000000", "long a 10000000000000000000 10000000000000000000",
    "long a 0 01000000000000000000", "long a 00000000000000000000 7", "long a 0 00000000000000000007",
    "long a 0 0000000000000000007", "long a 0 " + "9" * 60, "long a " + "1" * 5000 + " 7", "long a 0 " + "0" * 5000,
    "long a x 7", "long a 0 x", "long a 0x0 7", "long a 0 1e3", "long a 0 7.0", "long a 0 1_0", "long a 0 1,0",
    "long a ahead 7", "long a 7 b", "long a 0 7.",
]
BAD_GROUPS = [
    "one a ahead b ", " one a ahead b", "one  a ahead b", "one a ahead b or  a joins b", "one a ahead b  or a joins b",
    "one a ahead b or", "one a ahead b or ", "one or a ahead b", "one  or a ahead b", "one or", "one or or",
    "one a ahead b or or a joins b", "one a ahead b a joins b", "one a ahead b and a joins b",
    "one a ahead b Or a joins b", "one a ahead b OR a joins b", "one a b", "one a b or a ahead b",
    "one a ahead b or a b", "one a ahead b or a",
    "one a ahead b or a ahead", "one a ahead b or joins b", "one a ahead a", "one a ahead b or b same b",
    "one c ahead b", "one a ahead b or a ahead c", "one a ahead b or a joins ahead b",
    "one a ahead b or a joins joins b",
    "one a ahead b or a nothing b", "one ways a ahead b", "one a ahead b or ways a joins b", "one long a 0 7",
    "one a ahead b or long a 0 7", "one a ahead b or one a joins b", "one a ahead b or a Joins b",
    "one " + " or ".join(["a ahead b"] * 7), "one " + " or ".join(["a ahead b"] * 60),
    "one " + " or ".join(["a ahead b"] * 6 + ["a b"]), "one " + " or ".join(["a ahead b"] * 5 + ["a ahead a"]),
]
BAD_ROWS = BAD_WORDS + BAD_STRETCHES + BAD_WAYS + BAD_LENGTHS + BAD_GROUPS


class Reading(unittest.TestCase):
    def refused(self, text, row):
        with self.assertRaises(BadText) as raised:
            read(text)
        self.assertIs(type(raised.exception), BadText)
        self.assertEqual(raised.exception.row, row, text)

    def taken(self, text, names, facts):
        """What is read, and that it is written as it was."""
        told = read(text)
        self.assertIs(type(told), tuple)
        self.assertEqual(told, (names, facts))
        self.assertEqual([type(part) for part in told], [list, list])
        self.assertEqual(written(*told), text)
        self.assertEqual(told, (names, facts))


class GoodTexts(Reading):
    def test_one_and_eight_stretches_and_no_fact(self):
        self.taken("stretch a", ["a"], [])
        self.taken("stretch abcdefgh", ["abcdefgh"], [])
        self.taken("\n".join(f"stretch {name}" for name in "hgfedcba"), list("hgfedcba"), [])
        for count in range(1, 9):
            self.taken(text_of(NAMES[:count], []), NAMES[:count], [])

    def test_each_kind_of_fact(self):
        self.taken(
            "stretch a\nstretch b\nstretch c\nways c ahead laps a\nlong b 2 7\none b ahead a or a joins c",
            ["a", "b", "c"],
            [("ways", 2, 5, 0), ("long", 1, 2, 7), ("one", [("ways", 1, 1, 0), ("ways", 0, 2, 2)])])
        self.taken("stretch a\nlong a 0 0", ["a"], [("long", 0, 0, 0)])

    def test_each_way_and_all_ways(self):
        for number, word in enumerate(WORDS):
            self.taken(f"stretch a\nstretch b\nways b {word} a", ["a", "b"], [("ways", 1, 1 << number, 0)])
            self.taken(f"stretch a\nstretch b\none a {word} b", ["a", "b"], [("one", [("ways", 0, 1 << number, 1)])])
        self.taken("stretch a\nstretch b\nways a " + " ".join(WORDS) + " b", ["a", "b"], [("ways", 0, ALL, 1)])

    def test_every_set(self):
        for mask in range(1, ALL + 1):
            text = text_of(["a", "b"], [("ways", 0, mask, 1)])
            self.assertEqual(read(text)[1], [("ways", 0, mask, 1)])
            self.assertEqual(written(["a", "b"], [("ways", 0, mask, 1)]), text)

    def test_names_that_are_other_words(self):
        # Which words are names and which are ways is told by their places.
        names = ["ahead", "behind", "stretch", "ways", "long", "one", "o", "orr"]
        head = "\n".join(f"stretch {name}" for name in names) + "\n"
        self.taken(head + "ways ahead ahead behind", names, [("ways", 0, 1, 1)])
        self.taken(head + "ways ahead ahead behind behind", names, [("ways", 0, 1 | 1 << 12, 1)])
        self.taken(head + "ways behind ahead behind ahead", names, [("ways", 1, 1 | 1 << 12, 0)])
        self.taken(head + "ways ways same stretch", names, [("ways", 3, 64, 2)])
        self.taken(head + "long long 5 5\nlong ahead 5 6", names, [("long", 4, 5, 5), ("long", 0, 5, 6)])
        self.taken(head + "one one ahead o or orr ahead one", names, [("one", [("ways", 5, 1, 6), ("ways", 7, 1, 5)])])

    def test_each_word_of_a_way_as_a_name(self):
        for number, word in enumerate(WORDS):
            self.taken(f"stretch {word}\nstretch b\nways {word} {word} b", [word, "b"], [("ways", 0, 1 << number, 1)])
            self.taken(f"stretch {word}\nstretch b\none b {word} {word} or b same {word}", [word, "b"], [
                ("one", [("ways", 1, 1 << number, 0), ("ways", 1, 64, 0)])])

    def test_lengths_at_the_edges(self):
        far = 10 ** 18
        for low, high in (
                (0, 0), (0, 1), (1, 1), (9, 10), (10, 10), (0, far), (far - 1, far), (far, far), (100, 10 ** 17)):
            self.taken(f"stretch a\nlong a {low} {high}", ["a"], [("long", 0, low, high)])

    def test_groups_of_one_to_six(self):
        members = [("ways", 0, 1 << k, 1) for k in range(6)]
        for size in range(1, 7):
            told = ("one", members[:size])
            self.taken(text_of(["a", "b"], [told]), ["a", "b"], [told])
            self.taken(text_of(["a", "b"], [("one", members[:1] * size)]), ["a", "b"], [("one", members[:1] * size)])

    def test_sixty_facts_with_six_groups(self):
        group = ("one", [("ways", 1, ALL, 0)] * 6)
        for facts in (
                [("ways", 0, 3, 1)] * 60, [("long", 1, 0, 10 ** 18)] * 60, [group] * 6 + [("ways", 0, 3, 1)] * 54,
                [("ways", 0, 3, 1)] * 54 + [group] * 6, [group, ("long", 0, 1, 2)] * 6 + [("ways", 0, 3, 1)] * 48):
            self.taken(text_of(["a", "b"], facts), ["a", "b"], facts)
            self.taken(text_of(NAMES[:8], facts), NAMES[:8], facts)

    def test_drawn_ones(self):
        rng = random.Random(1)
        for _ in range(300):
            count = rng.randint(1, 8)
            names, facts = drawn_told(rng, count, rng.randint(0, 8), rng.randint(0, 4), rng.choice([0, 1, 6]))
            text = text_of(names, facts)
            self.assertEqual(told_by(text), (names, facts))
            self.taken(text, names, facts)
            before = copy.deepcopy((names, facts))
            self.assertEqual(written(names, facts), text)
            self.assertEqual((names, facts), before)


class BadTexts(Reading):
    def test_a_good_text_to_begin_with(self):
        self.assertEqual(read("\n".join(HEAD + FACTS))[0], ["a", "b", "ahead", "abcdefgh"])

    def test_a_bad_row_at_every_place(self):
        for bad in BAD_ROWS:
            for place in range(len(HEAD + FACTS) + 1):
                rows = HEAD + FACTS
                rows.insert(place, bad)
                self.refused("\n".join(rows), place + 1)

    def test_a_bad_row_in_the_place_of_a_good_one(self):
        for bad in BAD_ROWS:
            for place in range(len(HEAD), len(HEAD + FACTS)):
                rows = HEAD + FACTS
                rows[place] = bad
                self.refused("\n".join(rows), place + 1)

    def test_a_bad_row_by_itself(self):
        for bad in BAD_ROWS + FACTS:
            self.refused(bad, 1)
            self.refused(bad + "\nstretch a", 1)

    def test_no_row_stretch_at_all(self):
        self.refused("", 1)
        self.refused("\n", 1)
        self.refused("\n\n\n", 1)
        self.refused("\n".join(FACTS), 1)
        self.refused("long a 0 7", 1)
        self.refused("a\nb\nc", 1)

    def test_empty_rows(self):
        self.refused("\nstretch a", 1)
        self.refused("stretch a\n", 2)
        self.refused("stretch a\n\n", 2)
        self.refused("stretch a\n\nlong a 0 1", 2)
        self.refused("stretch a\nlong a 0 1\n", 3)
        self.refused("stretch a\nlong a 0 1\n\nlong a 0 1", 3)
        self.refused("stretch a\nlong a 0 1\n ", 3)

    def test_a_name_told_above(self):
        self.refused("stretch a\nstretch a", 2)
        self.refused("stretch a\nstretch b\nstretch a\nlong a 0 1", 3)
        self.refused("stretch ahead\nstretch b\nstretch c\nstretch ahead", 4)

    def test_a_stretch_row_behind_facts(self):
        for place in range(len(HEAD) + 1, len(HEAD + FACTS) + 1):
            rows = HEAD + FACTS
            rows.insert(place, "stretch c")
            self.refused("\n".join(rows), place + 1)
        self.refused("stretch a\nlong a 0 1\nstretch b", 3)
        # The row that names c stands ahead of the one that tells it.
        self.refused("stretch a\nways a ahead c\nstretch c", 2)
        self.refused("stretch a\nlong c 0 1\nstretch c", 2)

    def test_a_ninth_stretch(self):
        eight = [f"stretch {name}" for name in "abcdefgh"]
        for more in (["stretch i"], ["stretch i", "stretch j"], ["stretch i", "long a 0 1"], ["stretch i", "nothing"]):
            self.refused("\n".join(eight + more), 9)
        self.refused("\n".join(eight + ["long a 0 1", "stretch i"]), 10)
        self.refused("\n".join(eight[:7] + ["stretch or", "stretch h", "stretch i"]), 8)

    def test_a_sixty_first_fact(self):
        for row in ("long a 0 1", "ways a ahead b", "one a ahead b", "nothing", "stretch c", ""):
            self.refused("\n".join(["stretch a", "stretch b"] + ["ways a ahead b"] * 60 + [row]), 63)
            self.refused("\n".join(["stretch a", "stretch b"] + ["ways a ahead b"] * 60 + [row, "nothing"]), 63)
        self.refused("\n".join(["stretch a"] + ["long a 0 1"] * 100), 62)
        groups = ["one a ahead b"] * 6
        self.refused("\n".join(["stretch a", "stretch b"] + groups + ["long a 0 1"] * 55), 63)

    def test_a_seventh_group(self):
        head = ["stretch a", "stretch b"]
        self.refused("\n".join(head + ["one a ahead b"] * 7), 9)
        self.refused("\n".join(head + ["one a ahead b"] * 20), 9)
        self.refused("\n".join(head + ["one a ahead b", "long a 0 1"] * 7), 15)
        self.refused("\n".join(head + ["long a 0 1"] * 53 + ["one a ahead b"] * 7), 62)
        self.refused("\n".join(head + ["long a 0 1"] * 54 + ["one a ahead b"] * 7), 63)

    def test_of_two_bad_rows_the_first(self):
        rng = random.Random(2)
        for _ in range(300):
            rows = HEAD + FACTS
            first, second = sorted(rng.sample(range(len(rows) + 1), 2))
            rows.insert(second, rng.choice(BAD_ROWS))
            rows.insert(first, rng.choice(BAD_ROWS))
            self.refused("\n".join(rows), first + 1)

    def test_limits_are_counted_up_to_the_row(self):
        # The 61st fact stands behind the seventh group, and the ninth stretch ahead of both.
        head = [f"stretch {name}" for name in "ab"]
        facts = ["one a ahead b"] * 7 + ["long a 0 1"] * 60
        self.refused("\n".join(head + facts), 9)
        self.refused("\n".join(head + facts[::-1]), 63)
        self.refused("\n".join([f"stretch {name}" for name in "abcdefghi"] + facts), 9)


class Drawn(Reading):
    def changed_row(self, rng, row):
        words = row.split(" ")
        place = rng.randrange(len(words))
        sign = rng.randrange(len(row) + 1)
        act = rng.randrange(7)
        if act == 0:
            words.insert(place, rng.choice(WORDS + NAMES + ["or", "ways", "0", "7", ""]))
        elif act == 1:
            words[place] = rng.choice(WORDS + NAMES + ["or", "10", "stretch"])
        elif act == 2:
            words.pop(place)
        elif act == 3:
            other = rng.randrange(len(words))
            words[place], words[other] = words[other], words[place]
        elif act == 4:
            return row[:sign] + rng.choice(" abz09or~\nA-") + row[sign:]
        elif act == 5:
            return row[:sign] + row[sign + 1:]
        else:
            return row[:sign] + row[max(0, sign - 3):sign] + row[sign:]
        return " ".join(words)

    def changed(self, rng, text):
        rows = text.split("\n")
        for _ in range(rng.choice([1, 1, 1, 2, 3])):
            place = rng.randrange(len(rows))
            act = rng.randrange(8)
            if act == 0:
                rows.insert(place, rng.choice(rows))
            elif act == 1 and len(rows) > 1:
                rows.pop(place)
            elif act == 2:
                other = rng.randrange(len(rows))
                rows[place], rows[other] = rows[other], rows[place]
            else:
                rows[place] = self.changed_row(rng, rows[place])
        return "\n".join(rows)

    def test_texts_changed_at_some_places(self):
        rng = random.Random(3)
        seen = {True: 0, False: 0}
        for _ in range(6000):
            count = rng.randint(1, 8)
            names, facts = drawn_told(rng, count, rng.randint(0, 4), rng.randint(0, 3), rng.choice([0, 1, 2, 6]))
            text = self.changed(rng, text_of(names, facts))
            expected = told_by(text)
            seen[isinstance(expected, int)] += 1
            if isinstance(expected, int):
                self.refused(text, expected)
            else:
                self.taken(text, *expected)
        self.assertGreater(min(seen.values()), 500, seen)


class OwnLists(Reading):
    def test_what_was_read_changed_later(self):
        text = "\n".join(HEAD + FACTS)
        first = copy.deepcopy(read(text))
        spoil(read(text))
        self.assertEqual(read(text), first)
        told = read(text)
        told[0].append("c")
        told[1][2][1].append(("ways", 0, 1, 1))
        told[1].append(("long", 0, 1, 1))
        self.assertEqual(read(text), first)
        self.assertEqual(written(*first), text)

    def test_what_was_handed_to_written_stays(self):
        names, facts = read("\n".join(HEAD + FACTS))
        before = copy.deepcopy((names, facts))
        text = written(names, facts)
        self.assertEqual((names, facts), before)
        spoil((names, facts))
        self.assertEqual(text, "\n".join(HEAD + FACTS))
        self.assertIs(type(text), str)
        self.assertEqual(written(*before), text)


if __name__ == "__main__":
    unittest.main()

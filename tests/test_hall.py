import random
import unittest

from spanways.asking import asked
from spanways.errors import BadText
from spanways.hall import answer_text, plan_text
from spanways.plans import planned
from spanways.texts import read
from tests.oracle import all_kept, clash_of, drawn_mask, drawn_pair, tight_facts
from tests.reading import WORDS, drawn_names, drawn_told, member_row, text_of

TWO = "stretch a\nstretch b\n"
BAD_TEXTS = [
    ("", 1), ("stretch a\n", 2), ("stretch a\nstretch b\nways a ahead c", 3), ("ways a ahead b", 1),
    ("stretch a\nstretch b\nlong a 2 1\nnothing", 3), ("stretch a\nstretch b\nlong a 1 2\nstretch c", 4),
]
BAD_QUESTIONS = [
    "", " ", "a", "a b", "a ahead", "ahead", "a ahead a", "b ahead b", "a ahead c", "c ahead a", "c ahead d",
    "A ahead b", "a Ahead b", "a ahead b ", " a ahead b", "a  ahead b", "a ahead  b", "a ahead b\n", "\na ahead b",
    "a ahead\nb",
    "a ahead b\na ahead b", "a joins ahead b", "a ahead ahead b", "a nothing b", "ways a ahead b", "one a ahead b",
    "a ahead b or a joins b", "a or b", "a ahead or", "or ahead b", "a ahead b b", "long a 0 1", "stretch c", "a 1 b",
    "a " + " ".join(WORDS) + " behind b", "a " + " ".join(WORDS[::-1]) + " b",
]


def drawn(rng):
    """(names, facts), with all of planned's words among them."""
    if rng.random() < 0.4:
        count = rng.randint(3, 5)
        return drawn_names(rng, count), tight_facts(rng, count, 0)
    count = rng.randint(1, 6)
    return drawn_told(rng, count, rng.randint(0, count), rng.randint(0, 3), rng.choice([0, 0, 1]))


class Hall(unittest.TestCase):
    def refused(self, row, act, *arguments):
        with self.assertRaises(BadText) as raised:
            act(*arguments)
        self.assertIs(type(raised.exception), BadText)
        self.assertEqual(raised.exception.row, row, arguments)


class PlanTexts(Hall):
    def test_each_word(self):
        self.assertEqual(plan_text("stretch a\nlong a 3 3"), "laid\na 0 9")
        far = 10 ** 18
        self.assertEqual(plan_text(f"stretch a\nlong a {far} {far}"), f"laid\na 0 {3 * far}")
        self.assertEqual(plan_text("stretch a\nlong a 0 0"), "clash")
        self.assertEqual(plan_text("stretch a\nstretch b", 0), "open")
        self.assertEqual(plan_text(TWO + "ways a ahead b\nways b ahead a"), "clash")
        told = plan_text("stretch b\nstretch a\nlong a 2 2\nlong b 3 3\nways a joins b")
        self.assertEqual(told, "laid\nb 10 25\na 0 10")

    def test_names_that_are_words(self):
        self.assertEqual(
            plan_text("stretch laid\nstretch open\nlong laid 1 1\nlong open 1 1\nways open joins laid"),
            "laid\nlaid 5 10\nopen 0 5")

    def test_against_planned(self):
        rng = random.Random(1)
        seen = {"laid": 0, "clash": 0, "open": 0}
        for _ in range(150):
            names, facts = drawn(rng)
            text = text_of(names, facts)
            most = rng.choice([0, 3, 40])
            word, thing, splits = planned(len(names), facts, most)
            told = plan_text(text, most)
            self.assertIs(type(told), str)
            rows = [word]
            if word == "laid":
                rows += [f"{name} {start} {end}" for name, (start, end) in zip(names, thing)]
                laid = [tuple(int(figures) for figures in row.split(" ")[1:]) for row in told.split("\n")[1:]]
                self.assertTrue(all_kept(laid, facts))
            self.assertEqual(told, "\n".join(rows))
            self.assertEqual(planned(len(read(text)[0]), read(text)[1], most)[0], word)
            seen[word] += 1
        self.assertGreater(min(seen.values()), 10, seen)

    def test_bad_texts(self):
        for text, row in BAD_TEXTS:
            self.refused(row, plan_text, text)
            self.refused(row, plan_text, text, 0)

    def test_most_is_200_where_it_is_left_out(self):
        for splits, word in ((200, "clash"), (201, "open")):
            text = text_of(list("abcdef"), clash_of(splits))
            self.assertEqual(plan_text(text), word)
            self.assertEqual(plan_text(text, most=splits), "clash")
            self.assertEqual(plan_text(text, splits - 1), "open")


class AnswerTexts(Hall):
    def test_each_word(self):
        text = TWO + "ways a ahead joins b"
        self.assertEqual(answer_text(text, "a ahead joins b"), "must")
        self.assertEqual(answer_text(text, "b joinedby behind a"), "must")
        self.assertEqual(answer_text(text, "a ahead laps b"), "may")
        self.assertEqual(answer_text(text, "b ahead joins a"), "never")
        self.assertEqual(answer_text(text, "a ahead joins b", 0), "open")
        self.assertEqual(answer_text(text + "\nways b ahead a", "a same b"), "clash")

    def test_names_that_are_words(self):
        text = "stretch ahead\nstretch behind\nways ahead ahead behind"
        self.assertEqual(answer_text(text, "ahead ahead behind"), "must")
        self.assertEqual(answer_text(text, "behind behind ahead"), "must")
        self.assertEqual(answer_text(text, "behind ahead ahead"), "never")
        self.assertEqual(answer_text(text, "ahead ahead behind behind"), "must")

    def test_against_asked(self):
        rng = random.Random(2)
        seen = {"must": 0, "may": 0, "never": 0, "clash": 0, "open": 0}
        for _ in range(250):
            names, facts = drawn(rng)
            if len(names) == 1:
                continue
            i, j = drawn_pair(rng, len(names))
            mask = drawn_mask(rng, rng.choice([0.1, 0.5, 0.9])) or 1
            most = rng.choice([0, 3, 40])
            told = answer_text(text_of(names, facts), member_row(("ways", i, mask, j), names), most)
            self.assertIs(type(told), str)
            self.assertEqual(told, asked(len(names), facts, i, mask, j, most)[0])
            seen[told] += 1
        self.assertGreater(min(seen.values()), 5, seen)

    def test_bad_questions_are_row_0(self):
        for text in (TWO + "ways a ahead b", TWO[:-1], TWO + "ways a ahead b\nways a behind b"):
            for question in BAD_QUESTIONS:
                self.refused(0, answer_text, text, question)
                self.refused(0, answer_text, text, question, 0)

    def test_a_question_about_one_stretch(self):
        for question in ("a ahead a", "a ahead b", "b ahead a", ""):
            self.refused(0, answer_text, "stretch a", question)

    def test_the_text_is_refused_ahead_of_the_question(self):
        for text, row in BAD_TEXTS:
            for question in ["a ahead b"] + BAD_QUESTIONS:
                self.refused(row, answer_text, text, question)

    def test_most_is_200_where_it_is_left_out(self):
        question = "a " + " ".join(WORDS) + " b"
        for splits, word in ((200, "clash"), (201, "open")):
            text = text_of(list("abcdef"), clash_of(splits))
            self.assertEqual(answer_text(text, question), word)
            self.assertEqual(answer_text(text, question, most=splits), "clash")
            self.assertEqual(answer_text(text, question, splits - 1), "open")

    def test_fifty_nine_facts(self):
        text = TWO + "\n".join(["ways a ahead joins b"] * 53 + ["one a ahead b or a joins b"] * 6)
        self.assertEqual(answer_text(text, "a ahead b"), "may")
        self.assertEqual(answer_text(text, "a ahead joins b"), "must")


if __name__ == "__main__":
    unittest.main()

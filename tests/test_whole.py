"""What holds over the whole program: its interface, and that whatever is handed in or told is the asker's own."""

import copy
import importlib
import inspect
import random
import unittest

from spanways.asking import asked
from spanways.book import Book
from spanways.chains import chained, chained_sets, sample
from spanways.hall import answer_text, plan_text
from spanways.nets import fits, is_empty, made_of, narrowed, rounded, wide
from spanways.plans import planned
from spanways.tame import hull, tame
from spanways.texts import read, written
from spanways.times import bounds, grain, timed
from spanways.trees import follows
from spanways.ways import turned, way_between, way_words, ways_in, zones
from tests.oracle import ALL, clash_of, drawn_facts, drawn_mask, drawn_net, drawn_pair, spoil
from tests.reading import drawn_told, member_row, text_of
from tests.test_book import filled

FUNCTIONS = {
    "ways": ["way_words()", "zones(way)", "way_between(one, other)", "turned(mask)", "ways_in(mask)"],
    "chains": ["chained(first, second)", "chained_sets(one, other)", "sample(first, second, third)"],
    "tame": ["tame(mask)", "hull(mask)"],
    "nets": [
        "wide(count)", "narrowed(net, i, mask, j)", "made_of(net, three)", "rounded(net)", "is_empty(net)",
        "fits(net, stretches)"],
    "times": ["grain(count)", "bounds(net, lengths)", "timed(points, bounds)"],
    "plans": ["planned(count, facts, most=200)"],
    "trees": ["follows(count, facts, tree)"],
    "asking": ["asked(count, facts, i, mask, j, most=200)"],
    "book": ["Book(names)"],
    "texts": ["read(text)", "written(names, facts)"],
    "hall": ["plan_text(text, most=200)", "answer_text(text, question, most=200)"],
}
METHODS = [
    "put(self, label, fact)", "take(self, label)", "labels(self)", "facts(self)", "planned(self, most=200)",
    "asked(self, a, mask, b, most=200)",
]


def shown(name, thing):
    return name + str(inspect.signature(thing))


class Interface(unittest.TestCase):
    def test_names_and_arguments(self):
        for module, rows in FUNCTIONS.items():
            found = importlib.import_module("spanways." + module)
            for row in rows:
                name = row.partition("(")[0]
                self.assertEqual(shown(name, getattr(found, name)), row)
        for row in METHODS:
            name = row.partition("(")[0]
            self.assertEqual(shown(name, getattr(Book, name)), row)
        self.assertEqual(importlib.import_module("spanways.ways").ALL, 8191)

    def test_most_is_200_in_each_place_that_takes_it(self):
        names = list("abcdef")
        for splits, word in ((200, "clash"), (201, "open")):
            facts = clash_of(splits)
            text = text_of(names, facts)
            book = filled(names, facts)
            told = [
                planned(6, facts)[0], book.planned()[0], plan_text(text), asked(6, facts, 0, ALL, 1)[0],
                book.asked("a", ALL, "b")[0], answer_text(text, member_row(("ways", 0, ALL, 1), names)),
            ]
            self.assertEqual(told, [word] * 6)


class OneProgram(unittest.TestCase):
    def test_functions_books_and_texts_tell_the_same(self):
        rng = random.Random(1)
        seen = {}
        for _ in range(80):
            count = rng.randint(2, 5)
            names, facts = drawn_told(rng, count, rng.randint(0, count), rng.randint(0, 3), rng.choice([0, 1, 2]))
            most = rng.choice([1, 5, 200])
            book = filled(*read(text_of(names, facts)))
            self.assertEqual(book.facts(), facts)
            self.assertEqual(written(names, book.facts()), text_of(names, facts))
            told = planned(count, facts, most)
            self.assertEqual(book.planned(most), told)
            self.assertEqual(plan_text(text_of(names, facts), most).partition("\n")[0], told[0])
            i, j = drawn_pair(rng, count)
            mask = drawn_mask(rng, 0.5) or 1
            answer = asked(count, facts, i, mask, j, most)
            self.assertEqual(book.asked(names[i], mask, names[j], most), answer)
            question = member_row(("ways", i, mask, j), names)
            self.assertEqual(answer_text(text_of(names, facts), question, most), answer[0])
            for word in (told[0], answer[0]):
                seen[word] = seen.get(word, 0) + 1
        self.assertEqual(set(seen), {"laid", "clash", "open", "must", "may", "never"})


def calls(rng):
    """(function, arguments), one for each function of the interface."""
    count = rng.randint(3, 5)
    one, other = rng.randrange(13), rng.randrange(13)
    mask = drawn_mask(rng, 0.5) or 1
    i, j, k = rng.sample(range(count), 3)
    net = drawn_net(rng, count, 0.6, 1)
    laid = [(start, start + 3) for start in range(count)]
    facts = drawn_facts(rng, count, rng.randint(0, 3), rng.randint(0, 3), rng.randint(0, 2))
    facts.append(("long", 0, 0, rng.randint(0, 3)))
    tree = planned(count, facts + [("long", 0, 0, 0)])[1]
    lengths = [fact[1:] for fact in facts if fact[0] == "long"]
    names, told = drawn_told(rng, count, 2, 2, 1)
    text = text_of(names, told)
    yield from ((way_words, ()), (zones, (one,)), (way_between, (laid[0], laid[1])))
    yield from ((turned, (mask,)), (ways_in, (mask,)))
    yield from ((chained, (one, other)), (chained_sets, (mask, 77)), (sample, (one, other, other)))
    yield from ((tame, (mask,)), (hull, (mask,)))
    yield from ((wide, (count,)), (narrowed, (net, i, mask, j)), (rounded, (net,)), (is_empty, (net,)))
    yield from ((fits, (net, laid)), (grain, (count,)), (bounds, (net, lengths)))
    yield from ((made_of, (net, (i, k, j))), (timed, (2 * count, bounds(net, lengths))))
    yield from ((planned, (count, facts)), (follows, (count, facts, tree)), (asked, (count, facts, i, mask, j)))
    yield from ((read, (text,)), (written, (names, told)))
    yield from ((plan_text, (text,)), (answer_text, (text, member_row(("ways", i, mask, j), names))))


def lists_in(thing):
    """Every list within what was told, lists within lists too."""
    found = [thing] if isinstance(thing, list) else []
    for part in thing if isinstance(thing, (list, tuple)) else ():
        found += lists_in(part)
    return found


class OwnThings(unittest.TestCase):
    def drawn(self):
        rng = random.Random(2)
        for _ in range(25):
            for function, arguments in list(calls(rng)):
                yield function, copy.deepcopy(arguments)

    def test_nothing_that_is_handed_in_is_changed(self):
        for function, arguments in self.drawn():
            before = copy.deepcopy(arguments)
            function(*arguments)
            self.assertEqual(arguments, before, function)

    def test_what_was_told_changed_later_changes_no_answer(self):
        for function, arguments in self.drawn():
            first = copy.deepcopy(function(*arguments))
            told = function(*arguments)
            for part in lists_in(told):
                part.append("more")
            self.assertEqual(function(*arguments), first, function)
            spoil([told])
            self.assertEqual(function(*arguments), first, function)

    def test_what_was_handed_in_changed_later_changes_nothing_told(self):
        for function, arguments in self.drawn():
            told = function(*arguments)
            before = copy.deepcopy(told)
            for part in lists_in(arguments):
                part.append("more")
            spoil(arguments)
            self.assertEqual(told, before, function)

    def test_no_list_is_told_twice_or_was_handed_in(self):
        for function, arguments in self.drawn():
            marks = [id(part) for part in lists_in((arguments, function(*arguments)))]
            handed = len(lists_in(arguments))
            self.assertEqual(len(set(marks[handed:])), len(marks) - handed, function)
            self.assertEqual(set(marks[:handed]) & set(marks[handed:]), set(), function)


if __name__ == "__main__":
    unittest.main()

import copy
import itertools
import random
import unittest

from spanways.asking import asked
from spanways.book import Book
from spanways.errors import BadFact, NoLabel, NoName, SpanError, TooMany, Twice
from spanways.plans import planned
from tests.oracle import ALL, clash_of, drawn_facts, spoil
from tests.table import way

NAMES = ["a", "b", "or", "ahead", "abcdefgh", "zzzzzzzz", "ways", "one"]
FAR = 10 ** 60 - 1
LONGEST = 10 ** 18
OUT_OF_RANGE = (-1, ALL + 1, -ALL, FAR, -FAR)
GOOD = ("ways", "a", 3, "b")
GROUP = ("one", [GOOD])


def named(fact, names):
    """A fact by numbers as a book's fact."""
    if fact[0] == "ways":
        return ("ways", names[fact[1]], fact[2], names[fact[3]])
    if fact[0] == "long":
        return ("long", names[fact[1]], fact[2], fact[3])
    return ("one", [named(member, names) for member in fact[1]])


def label(number):
    return "".join(chr(ord("a") + figure) for figure in (number // 26, number % 26))


def state(book):
    return book.labels(), book.facts()


def filled(names, facts):
    """A book of facts by numbers, under labels aa, ab, .."""
    book = Book(names)
    for number, fact in enumerate(facts):
        book.put(label(number), named(fact, names))
    return book


class Refusing(unittest.TestCase):
    def refused(self, book, refusal, act, *arguments):
        """The error, once it is seen that its kind is the one and that nothing is changed."""
        before = copy.deepcopy((state(book), arguments))
        with self.assertRaises(SpanError) as raised:
            act(*arguments)
        self.assertIs(type(raised.exception), refusal, arguments)
        self.assertEqual((state(book), arguments), before)
        return raised.exception

    def bears(self, book, refusal, word, act, *arguments):
        self.assertEqual(self.refused(book, refusal, act, *arguments).word, word)


def bad_facts():
    """Facts of names a and b that are refused with BadFact."""
    yield ("ways", "a", 3, "a")
    yield ("ways", "b", ALL, "b")
    for mask in OUT_OF_RANGE:
        yield ("ways", "a", mask, "b")
        yield ("ways", "a", mask, "a")
    for low, high in (
            (-1, 3), (-1, -1), (-FAR, 0), (4, 3), (1, 0), (0, -1), (0, -FAR), (FAR, 3), (FAR, FAR), (0, FAR),
            (0, LONGEST + 1), (LONGEST, LONGEST + 1), (LONGEST + 1, LONGEST + 1), (LONGEST + 1, LONGEST),
            (-FAR, FAR), (LONGEST, LONGEST - 1)):
        yield ("long", "a", low, high)
    for size in (0, 7, 8, 60):
        yield ("one", [GOOD] * size)
    for size in range(1, 7):
        for place in {0, size // 2, size - 1}:
            for member in [("ways", "a", 3, "a")] + [("ways", "b", mask, "a") for mask in OUT_OF_RANGE]:
                yield ("one", [GOOD] * place + [member] + [GOOD] * (size - place - 1))
    yield ("one", [GOOD] * 6 + [("ways", "a", -1, "a")])


def strange_facts():
    """(fact, the name that is borne); x, y and z are strange, other things may be wrong beside them."""
    for mask in (0, 3, ALL) + OUT_OF_RANGE:
        yield ("ways", "x", mask, "b"), "x"
        yield ("ways", "b", mask, "x"), "x"
        yield ("ways", "x", mask, "y"), "x"
        yield ("ways", "y", mask, "x"), "y"
        yield ("ways", "x", mask, "x"), "x"
    for low, high in ((0, 0), (1, 2), (-1, 2), (3, 2), (FAR, -FAR), (0, LONGEST + 1)):
        yield ("long", "x", low, high), "x"
    for wrong in (GOOD, ("ways", "a", -1, "b"), ("ways", "a", 3, "a")):
        yield ("one", [wrong, ("ways", "x", 3, "y"), ("ways", "z", 3, "a")]), "x"
        yield ("one", [wrong, wrong, ("ways", "b", 3, "y"), ("ways", "x", 3, "z")]), "y"
        yield ("one", [("ways", "a", 3, "z"), ("ways", "x", 3, "y"), wrong]), "z"
        yield ("one", [wrong] * 6 + [("ways", "b", FAR, "x")]), "x"
        yield ("one", [wrong] * 59 + [("ways", "y", 3, "x")]), "y"
        yield ("one", [wrong] * 5 + [("ways", "x", 3, "x")]), "x"


class Names(Refusing):
    def test_stretch_number_k_is_called_by_the_name_at_place_k(self):
        for names in (NAMES, NAMES[::-1], ["b", "a"], ["stretch", "a", "b"]):
            book = Book(names)
            expected = []
            for number, (i, j) in enumerate(itertools.permutations(range(len(names)), 2)):
                book.put(label(number), ("ways", names[i], number, names[j]))
                expected.append(("ways", i, number, j))
            self.assertEqual(book.facts(), expected)

    def test_one_name(self):
        book = Book(["a"])
        self.assertEqual(book.planned(), planned(1, []))
        book.put("a", ("long", "a", 3, 3))
        self.assertEqual(book.planned(), ("laid", [(0, 9)], 0))
        self.refused(book, BadFact, book.put, "b", ("ways", "a", 1, "a"))
        self.bears(book, NoName, "b", book.put, "b", ("ways", "a", 1, "b"))

    def test_labels_and_names_have_nothing_to_do_with_one_another(self):
        book = Book(["a", "b"])
        book.put("a", GOOD)
        book.put("b", ("long", "a", 1, 1))
        book.put("abcdefgh", ("long", "b", 1, 1))
        book.put("or", GROUP)
        self.assertEqual(book.labels(), ["a", "b", "abcdefgh", "or"])
        self.bears(book, NoName, "or", book.put, "c", ("long", "or", 1, 1))

    def test_no_fact(self):
        book = Book(["a", "b", "c"])
        self.assertEqual(state(book), ([], []))
        self.assertEqual(book.planned(), planned(3, []))
        self.assertEqual(book.asked("a", 3, "c"), asked(3, [], 0, 3, 2))


class Keeping(Refusing):
    def test_each_kind_of_fact(self):
        book = Book(["a", "b", "c"])
        book.put("x", ("ways", "c", 5, "a"))
        book.put("y", ("long", "b", 2, 7))
        book.put("z", ("one", [("ways", "b", 1, "a"), ("ways", "a", 2, "c")]))
        self.assertEqual(book.labels(), ["x", "y", "z"])
        group = ("one", [("ways", 1, 1, 0), ("ways", 0, 2, 2)])
        self.assertEqual(book.facts(), [("ways", 2, 5, 0), ("long", 1, 2, 7), group])
        self.assertEqual([type(told) for told in (book.labels(), book.facts(), book.facts()[2][1])], [list] * 3)

    def test_facts_at_the_edges_are_let_in(self):
        book = Book(["a", "b"])
        facts = [
            ("ways", "a", 0, "b"), ("ways", "b", ALL, "a"), ("long", "a", 0, 0), ("long", "a", 0, LONGEST),
            ("long", "b", LONGEST, LONGEST), GROUP, ("one", [GOOD] * 6), ("one", [("ways", "b", 0, "a")] * 2), GROUP,
            ("one", [("ways", "a", ALL, "b")]), ("ways", "a", 0, "b"), ("long", "a", 0, 0),
        ]
        for number, fact in enumerate(facts):
            book.put(label(number), fact)
        self.assertEqual([named(fact, ["a", "b"]) for fact in book.facts()], facts)
        self.assertEqual(book.labels(), [label(number) for number in range(len(facts))])

    def test_in_many_orders(self):
        rng = random.Random(1)
        words = {"laid": 0, "clash": 0, "open": 0}
        for _ in range(25):
            names = rng.sample(NAMES, rng.randint(2, 5))
            book = Book(names)
            kept = []
            for _ in range(40):
                free = [label(number) for number in range(12) if label(number) not in dict(kept)]
                if kept and rng.random() < 0.4:
                    gone = rng.choice(kept)
                    book.take(gone[0])
                    kept.remove(gone)
                elif free:
                    fact = rng.choice(drawn_facts(rng, len(names), 2, 1, 1))
                    if fact[0] != "one" or sum(one[1][0] == "one" for one in kept) < 6:
                        kept.append((rng.choice(free), fact))
                        book.put(kept[-1][0], named(fact, names))
                self.assertEqual(state(book), ([one[0] for one in kept], [one[1] for one in kept]))
            words[self.as_if_never_put(rng, book, names, kept)] += 1
        self.assertGreater(min(words["laid"], words["clash"]), 2, words)

    def as_if_never_put(self, rng, book, names, kept):
        """All that a book tells, against one in which nothing but what is kept was put, and against the functions."""
        other = Book(names)
        for word, fact in kept:
            other.put(word, named(fact, names))
        facts = [fact for _, fact in kept]
        for most in (0, 2, 200):
            self.assertEqual(book.planned(most), planned(len(names), facts, most))
            self.assertEqual(book.planned(most), other.planned(most))
            i, j = rng.sample(range(len(names)), 2)
            mask = rng.randrange(ALL + 1)
            told = book.asked(names[i], mask, names[j], most)
            self.assertEqual(told, asked(len(names), facts, i, mask, j, most))
            self.assertEqual(told, other.asked(names[i], mask, names[j], most))
        for word, _ in kept:
            self.bears(book, Twice, word, book.put, word, ("long", names[0], 1, 1))
            book.take(word)
        self.assertEqual(state(book), ([], []))
        self.assertEqual(book.planned(), planned(len(names), []))
        return other.planned()[0]

    def test_a_fact_put_again_stands_behind_the_others(self):
        book = Book(["a", "b"])
        for word in ("x", "y", "z"):
            book.put(word, ("long", "a", ord(word), 200))
        book.take("x")
        book.put("x", ("long", "b", 1, 2))
        self.assertEqual(book.labels(), ["y", "z", "x"])
        self.assertEqual(book.facts(), [("long", 0, 121, 200), ("long", 0, 122, 200), ("long", 1, 1, 2)])

    def test_the_order_of_groups_tells(self):
        late = ("one", [("ways", "a", 1 << 12, "b"), ("ways", "a", 1, "b")])
        early = ("one", [("ways", "a", 1, "b"), ("ways", "a", 1 << 12, "b")])
        for order, number in (((late, early), 12), ((early, late), 0)):
            book = Book(["a", "b"])
            for word, fact in zip(("y", "x"), order):
                book.put(word, fact)
            self.assertEqual([named(fact, ["a", "b"]) for fact in book.facts()], list(order))
            self.assertEqual(book.planned(), planned(2, book.facts()))
            self.assertEqual(way(*book.planned()[1]), number)

    def test_two_books_beside_one_another(self):
        names = ["a", "b"]
        one, other = Book(names), Book(names)
        one.put("x", GOOD)
        other.put("x", GROUP)
        other.put("y", ("long", "b", 1, 1))
        self.assertEqual(state(one), (["x"], [("ways", 0, 3, 1)]))
        self.assertEqual(state(other), (["x", "y"], [("one", [("ways", 0, 3, 1)]), ("long", 1, 1, 1)]))
        one.take("x")
        self.assertEqual(state(one), ([], []))
        self.assertEqual(other.labels(), ["x", "y"])
        third = Book(["b", "a"])
        self.assertEqual(state(third), ([], []))
        third.put("x", GOOD)
        self.assertEqual(third.facts(), [("ways", 1, 3, 0)])
        self.bears(one, NoLabel, "x", one.take, "x")


class Refusals(Refusing):
    def full_books(self):
        """(book that keeps a fact under aa, what can still be put)."""
        long = ("long", 0, 1, 1)
        group = ("one", [("ways", 0, 3, 1)])
        yield filled(["a", "b"], [long]), (GOOD, GROUP)
        yield filled(["a", "b"], [long] * 60), ()
        yield filled(["a", "b"], [group] * 6), (GOOD,)
        yield filled(["a", "b"], [long] * 54 + [group] * 6), ()
        yield filled(["a", "b"], [long] * 53 + [group] * 6), (GOOD,)
        yield filled(["a", "b"], [long] * 55 + [group] * 5), ()

    def test_twice(self):
        for book, room in self.full_books():
            for fact in [GOOD, GROUP, ("long", "a", 1, 1)] + list(bad_facts()) + [fact for fact, _ in strange_facts()]:
                self.bears(book, Twice, "aa", book.put, "aa", fact)

    def test_no_label(self):
        for book, room in self.full_books():
            for word in ("a", "aaa", "zz", "abcdefgh", "b"):
                self.bears(book, NoLabel, word, book.take, word)
        book = Book(["a", "b"])
        self.bears(book, NoLabel, "a", book.take, "a")
        book.put("a", GOOD)
        book.take("a")
        self.bears(book, NoLabel, "a", book.take, "a")

    def test_no_name_ahead_of_bad_facts_and_too_many(self):
        for book, room in self.full_books():
            for fact, word in strange_facts():
                self.bears(book, NoName, word, book.put, "zz", fact)

    def test_bad_fact_ahead_of_too_many(self):
        for book, room in self.full_books():
            for fact in bad_facts():
                self.refused(book, BadFact, book.put, "zz", fact)

    def test_too_many(self):
        for book, room in self.full_books():
            for fact in (GOOD, ("long", "b", 0, 0), GROUP, ("one", [GOOD] * 6)):
                if (GROUP if fact[0] == "one" else GOOD) in room:
                    before = state(book)
                    book.put("zz", fact)
                    self.assertEqual(book.labels(), before[0] + ["zz"])
                    book.take("zz")
                    self.assertEqual(state(book), before)
                else:
                    self.refused(book, TooMany, book.put, "zz", fact)

    def test_one_more_once_one_was_taken_out(self):
        book = filled(["a", "b"], [("long", 0, 1, 1)] * 60)
        self.refused(book, TooMany, book.put, "zz", GOOD)
        book.take(label(30))
        book.put("zz", GOOD)
        self.assertEqual((len(book.labels()), book.labels()[-1]), (60, "zz"))
        self.refused(book, TooMany, book.put, "zy", GOOD)
        book = filled(["a", "b"], [("one", [("ways", 0, 3, 1)]), ("long", 0, 1, 1)] * 6)
        self.refused(book, TooMany, book.put, "zz", GROUP)
        book.take(label(1))
        self.refused(book, TooMany, book.put, "zz", GROUP)
        book.take(label(4))
        book.put("zz", GROUP)
        self.refused(book, TooMany, book.put, "zy", GROUP)
        book.put("zy", GOOD)

    def test_a_refused_label_can_still_be_put(self):
        book = Book(["a", "b"])
        self.refused(book, BadFact, book.put, "x", ("long", "a", 2, 1))
        self.refused(book, NoName, book.put, "x", ("long", "c", 1, 2))
        self.bears(book, NoLabel, "x", book.take, "x")
        book.put("x", GOOD)
        self.assertEqual(book.labels(), ["x"])

    def test_the_document_s_words_for_masks_and_lengths(self):
        book = Book(["a", "b"])
        for mask in (-1, 0, 1, ALL - 1, ALL, ALL + 1):
            if 0 <= mask <= ALL:
                book.put("x", ("ways", "b", mask, "a"))
                book.take("x")
            else:
                self.refused(book, BadFact, book.put, "x", ("ways", "b", mask, "a"))
        edges = (-1, 0, 1, LONGEST - 1, LONGEST, LONGEST + 1)
        for low, high in itertools.product(edges, edges):
            if 0 <= low <= high <= LONGEST:
                book.put("x", ("long", "b", low, high))
                book.take("x")
            else:
                self.refused(book, BadFact, book.put, "x", ("long", "b", low, high))


class Questions(Refusing):
    def test_refused_as_put_refuses(self):
        for facts in ([], [("long", 0, 1, 1)] * 59, [("one", [("ways", 0, 3, 1)])] * 6, [("ways", 0, 0, 1)]):
            book = filled(["a", "b"], facts)
            for mask in (0, 3, ALL) + OUT_OF_RANGE:
                for a, b, word in (
                        ("x", "b", "x"), ("b", "x", "x"), ("x", "y", "x"), ("y", "x", "y"), ("x", "x", "x"),
                        ("aa", "a", "aa")):
                    self.bears(book, NoName, word, book.asked, a, mask, b)
                    self.bears(book, NoName, word, book.asked, a, mask, b, 0)
                self.refused(book, BadFact, book.asked, "a", mask, "a")
            for mask in OUT_OF_RANGE:
                self.refused(book, BadFact, book.asked, "a", mask, "b")

    def test_sets_at_the_edges_are_let_in(self):
        book = Book(["a", "b"])
        self.assertEqual(book.asked("a", 0, "b"), asked(2, [], 0, 0, 1))
        self.assertEqual(book.asked("b", ALL, "a"), asked(2, [], 1, ALL, 0))

    def test_questions_with_as_many_facts_as_are_let_in(self):
        group = ("one", [("ways", 0, 3, 1), ("ways", 1, 3, 0)])
        facts = [("ways", 0, ALL - 1, 1)] * 53 + [group] * 6
        book = filled(["b", "a"], facts)
        self.assertEqual(book.asked("b", 2, "a"), asked(2, facts, 0, 2, 1))
        self.assertEqual(book.planned(), planned(2, facts))
        book.put("zz", ("long", "a", 1, 1))
        self.assertEqual(book.planned(), planned(2, facts + [("long", 1, 1, 1)]))

    def test_a_question_changes_nothing(self):
        book = filled(["a", "b"], [("ways", 0, 7, 1), ("one", [("ways", 0, 3, 1)])])
        before = copy.deepcopy(state(book))
        first = book.asked("a", 1, "b")
        self.assertEqual(book.asked("a", 1, "b"), first)
        book.asked("a", 0, "b")
        book.planned()
        self.assertEqual(state(book), before)

    def test_most_is_200_where_it_is_left_out(self):
        for splits, word in ((200, "clash"), (201, "open")):
            book = filled(list("abcdef"), clash_of(splits))
            self.assertEqual(book.planned(1000)[::2], ("clash", splits))
            self.assertEqual(book.planned()[::2], (word, 200))
            self.assertEqual(book.planned(most=splits - 1), ("open", None, splits - 1))
            self.assertEqual(book.asked("a", ALL, "b")[0], word)
            self.assertEqual(book.asked("a", ALL, "b", most=splits)[0], "clash")
            self.assertEqual(book.asked("a", ALL, "b", splits - 1), ("open", None))


class OwnLists(Refusing):
    def test_the_names_handed_in_changed_later(self):
        names = ["a", "b"]
        book = Book(names)
        names.append("c")
        names[0] = "d"
        book.put("x", GOOD)
        self.assertEqual(book.facts(), [("ways", 0, 3, 1)])
        self.assertEqual(len(book.planned()[1]), 2)
        self.bears(book, NoName, "c", book.put, "y", ("long", "c", 1, 1))
        self.bears(book, NoName, "d", book.asked, "d", 1, "a")
        names.clear()
        self.assertEqual(book.asked("a", 3, "b")[0], "must")

    def test_a_group_handed_in_changed_later(self):
        group = [("ways", "a", 3, "b"), ("ways", "b", 1, "a")]
        book = Book(["a", "b"])
        book.put("x", ("one", group))
        told = copy.deepcopy((book.facts(), book.planned(), book.asked("a", 1, "b")))
        group.append(("ways", "a", 1 << 6, "b"))
        group[0] = ("ways", "a", 0, "a")
        self.assertEqual((book.facts(), book.planned(), book.asked("a", 1, "b")), told)
        group.clear()
        self.assertEqual((book.facts(), book.planned(), book.asked("a", 1, "b")), told)
        self.assertEqual(told[0], [("one", [("ways", 0, 3, 1), ("ways", 1, 1, 0)])])

    def test_one_group_list_under_two_labels_and_in_two_books(self):
        group = [("ways", "a", 3, "b")]
        one, other = Book(["a", "b"]), Book(["a", "b"])
        one.put("x", ("one", group))
        group.append(("ways", "b", 3, "a"))
        one.put("y", ("one", group))
        other.put("x", ("one", group))
        group.clear()
        first, second = ("ways", 0, 3, 1), ("ways", 1, 3, 0)
        self.assertEqual(one.facts(), [("one", [first]), ("one", [first, second])])
        self.assertEqual(other.facts(), [("one", [first, second])])
        spoil(one.facts()[1])
        self.assertEqual(other.facts(), [("one", [first, second])])

    def test_what_was_told_changed_later(self):
        rng = random.Random(2)
        names = ["a", "b", "c"]
        words = set()
        for _ in range(40):
            facts = drawn_facts(rng, 3, rng.randint(0, 3), rng.randint(0, 2), rng.randint(0, 2))
            book = filled(names, facts)
            questions = [("a", mask, "c") for mask in (0, 5, ALL)]

            def told():
                return book.labels(), book.facts(), book.planned(), [book.asked(*question) for question in questions]

            first = copy.deepcopy(told())
            words |= {first[2][0]} | {answer[0] for answer in first[3]}
            spoil(told())
            self.assertEqual(told(), first)
            book.labels().append("zz")
            book.facts().append(("ways", 0, 0, 1))
            for fact in book.facts():
                if fact[0] == "one":
                    fact[1].append(("ways", 0, 0, 1))
            self.assertEqual(told(), first)
            held = told()
            for word in first[0]:
                book.take(word)
            book.put("zz", ("ways", "a", 0, "b"))
            self.assertEqual(held, first)
        self.assertEqual(words, {"laid", "clash", "must", "may", "never"})


if __name__ == "__main__":
    unittest.main()

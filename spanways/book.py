"""A book: facts about named stretches, kept under labels."""

from spanways.asking import asked
from spanways.errors import BadFact, NoLabel, NoName, TooMany, Twice
from spanways.limits import MEMBERS, has_room, is_length
from spanways.plans import planned
from spanways.ways import ALL


# In the order in which a strange one is borne.
def names_in(fact):
    if fact[0] == "ways":
        return [fact[1], fact[3]]
    if fact[0] == "long":
        return [fact[1]]
    found = []
    for member in fact[1]:
        found.extend(names_in(member))
    return found


def is_sound(fact):
    if fact[0] == "ways":
        return fact[1] != fact[3] and 0 <= fact[2] <= ALL
    if fact[0] == "long":
        return is_length(fact[2], fact[3])
    return 1 <= len(fact[1]) <= MEMBERS and all([is_sound(member) for member in fact[1]])


def by_numbers(fact, numbers):
    if fact[0] == "ways":
        return ("ways", numbers[fact[1]], fact[2], numbers[fact[3]])
    if fact[0] == "long":
        return ("long", numbers[fact[1]], fact[2], fact[3])
    return ("one", [by_numbers(member, numbers) for member in fact[1]])


def copied(fact):
    return ("one", list(fact[1])) if fact[0] == "one" else fact


class Book:
    def __init__(self, names):
        self.numbers = {}
        for number, name in enumerate(names):
            self.numbers[name] = number
        self.kept = {}

    def put(self, label, fact):
        if label in self.kept:
            raise Twice(label)
        numbered = self.let_in(fact)
        if not has_room(self.facts(), numbered):
            raise TooMany("no more facts, or groups, than these are kept")
        self.kept[label] = numbered

    def take(self, label):
        if label not in self.kept:
            raise NoLabel(label)
        self.kept.pop(label)

    # The fact by numbers, in lists of the book's own. All names are looked at ahead of all else.
    def let_in(self, fact):
        for name in names_in(fact):
            if name not in self.numbers:
                raise NoName(name)
        if not is_sound(fact):
            raise BadFact("two alike names, a number out of range, or a group of no fact or of too many")
        return by_numbers(fact, self.numbers)

    def labels(self):
        return list(self.kept)

    def facts(self):
        return [copied(fact) for fact in self.kept.values()]

    def planned(self, most=200):
        return planned(len(self.numbers), self.facts(), most)

    def asked(self, a, mask, b, most=200):
        question = self.let_in(("ways", a, mask, b))
        return asked(len(self.numbers), self.facts(), question[1], mask, question[3], most)

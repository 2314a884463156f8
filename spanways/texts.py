"""Texts: names of stretches and facts about them, row by row."""

from spanways.errors import BadText
from spanways.limits import MEMBERS, has_room, is_length
from spanways.ways import WORDS, set_of, ways_in

LETTERS = "abcdefghijklmnopqrstuvwxyz"
FIGURES = "0123456789"
STRETCHES = 8


def all_of(word, signs):
    return all([sign in signs for sign in word])


def is_name(word):
    return 1 <= len(word) <= 8 and all_of(word, LETTERS) and word != "or"


# Sorts out words that are too long ahead of making a number of one.
def is_number(word):
    if not 1 <= len(word) <= 19 or not all_of(word, FIGURES):
        return False
    return word == "0" or word[0] != "0"


def words_of(mask):
    return [WORDS[way] for way in ways_in(mask)]


# There is just one way to write a set, so other orders and doubled or strange words are seen by writing it anew.
def set_told(words):
    mask = set_of([way for way in range(len(WORDS)) if WORDS[way] in words])
    return mask if words_of(mask) == words else 0


# This and the next three tell None where the words make no such fact.
def ways_told(words, names):
    if len(words) < 3 or words[0] not in names or words[-1] not in names or words[0] == words[-1]:
        return None
    mask = set_told(words[1:-1])
    if mask == 0:
        return None
    return ("ways", names.index(words[0]), mask, names.index(words[-1]))


def length_told(words, names):
    if len(words) != 3 or words[0] not in names or not is_number(words[1]) or not is_number(words[2]):
        return None
    low = int(words[1])
    high = int(words[2])
    if not is_length(low, high):
        return None
    return ("long", names.index(words[0]), low, high)


def group_told(words, names):
    parts = [[]]
    for word in words:
        if word == "or":
            parts.append([])
        else:
            parts[-1].append(word)
    members = [ways_told(part, names) for part in parts]
    if len(members) > MEMBERS or None in members:
        return None
    return ("one", members)


def fact_told(words, names):
    if words[0] == "ways":
        return ways_told(words[1:], names)
    if words[0] == "long":
        return length_told(words[1:], names)
    if words[0] == "one":
        return group_told(words[1:], names)
    return None


def tells_stretch(words, names):
    if len(words) != 2 or words[0] != "stretch":
        return False
    return is_name(words[1]) and words[1] not in names and len(names) < STRETCHES


# Words are split at each single blank: one blank too many makes an empty word, and nothing takes that.
def read(text):
    names = []
    facts = []
    for number, row in enumerate(text.split("\n"), start=1):
        words = row.split(" ")
        if facts == [] and tells_stretch(words, names):
            names.append(words[1])
        else:
            fact = fact_told(words, names)
            if fact is None or not has_room(facts, fact):
                raise BadText(number)
            facts.append(fact)
    return (names, facts)


def ways_row(fact, names):
    return " ".join([names[fact[1]]] + words_of(fact[2]) + [names[fact[3]]])


def fact_row(fact, names):
    if fact[0] == "ways":
        return "ways " + ways_row(fact, names)
    if fact[0] == "long":
        return " ".join(["long", names[fact[1]], str(fact[2]), str(fact[3])])
    return "one " + " or ".join([ways_row(member, names) for member in fact[1]])


def written(names, facts):
    rows = [f"stretch {name}" for name in names]
    rows.extend([fact_row(fact, names) for fact in facts])
    return "\n".join(rows)

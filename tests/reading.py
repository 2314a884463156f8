"""Texts as the document tells them: read by patterns, row by row, without the program; and texts that are drawn."""

import re

from tests.oracle import drawn_facts
from tests.table import TABLE, members

WORDS = [row[0] for row in TABLE]
NAME = r"[a-z]{1,8}"
NUMBER = r"(0|[1-9][0-9]{0,18})"
MEMBER = NAME + "".join(f"( {word})?" for word in WORDS) + " " + NAME
NAMES = ["a", "b", "o", "r", "oro", "orr", "abcdefgh", "zzzzzzzz", "stretch", "ways", "long", "one"] + [
    word for word in WORDS if len(word) <= 8]


def member_of(row, names):
    """A fact of kind ways, or None."""
    words = row.split(" ")
    if len(words) < 3 or not re.fullmatch(MEMBER, row) or not {words[0], words[-1]} <= set(names):
        return None
    if words[0] == words[-1]:
        return None
    return ("ways", names.index(words[0]), sum(1 << WORDS.index(word) for word in words[1:-1]), names.index(words[-1]))


def fact_of(row, names):
    kind, _, rest = row.partition(" ")
    if kind == "ways":
        return member_of(rest, names)
    if kind == "one":
        found = [member_of(part, names) for part in rest.split(" or ")]
        return ("one", found) if None not in found and len(found) <= 6 else None
    match = re.fullmatch(f"({NAME}) {NUMBER} {NUMBER}", rest) if kind == "long" else None
    if match is None or match[1] not in names or not int(match[2]) <= int(match[3]) <= 10 ** 18:
        return None
    return ("long", names.index(match[1]), int(match[2]), int(match[3]))


def told_by(text):
    """(names, facts), or the number of the first row that can not stand where it stands."""
    names, facts = [], []
    for number, row in enumerate(text.split("\n"), start=1):
        match = re.fullmatch(f"stretch ({NAME})", row)
        if match and match[1] != "or" and match[1] not in names and len(names) < 8 and not facts:
            names.append(match[1])
            continue
        fact = fact_of(row, names)
        groups = sum(one[0] == "one" for one in facts)
        if fact is None or len(facts) == 60 or fact[0] == "one" and groups == 6:
            return number
        facts.append(fact)
    return names, facts


def member_row(fact, names):
    return " ".join([names[fact[1]]] + [WORDS[number] for number in members(fact[2])] + [names[fact[3]]])


def fact_row(fact, names):
    if fact[0] == "long":
        return f"long {names[fact[1]]} {fact[2]} {fact[3]}"
    found = [fact] if fact[0] == "ways" else fact[1]
    return ("ways " if fact[0] == "ways" else "one ") + " or ".join(member_row(one, names) for one in found)


def text_of(names, facts):
    return "\n".join([f"stretch {name}" for name in names] + [fact_row(fact, names) for fact in facts])


def with_ways(fact, rng):
    """The same fact with a way in each set that has none."""
    if fact[0] == "one":
        return ("one", [with_ways(member, rng) for member in fact[1]])
    if fact[0] == "ways":
        return ("ways", fact[1], fact[2] or 1 << rng.randrange(13), fact[3])
    return fact


def drawn_names(rng, count):
    return rng.sample(NAMES, count)


def drawn_told(rng, count, ways, lengths, groups):
    """(names, facts) that can be written as a text."""
    facts = drawn_facts(rng, count, ways, lengths, groups) if count > 1 else []
    facts = [with_ways(fact, rng) for fact in facts]
    for _ in range(lengths if count == 1 else 0):
        facts.append(("long", 0, rng.randint(0, 3), rng.choice([3, 4, 10 ** 18])))
    return drawn_names(rng, count), facts

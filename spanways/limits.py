"""How much is let in where facts are refused: by a book, and in a text."""

from spanways.splits import groups_in

FACTS = 60
GROUPS = 6
MEMBERS = 6
LONGEST = 1000000000000000000


def is_length(low, high):
    return 0 <= low <= high <= LONGEST


def has_room(facts, fact):
    if len(facts) >= FACTS:
        return False
    return fact[0] != "one" or len(groups_in(facts)) < GROUPS

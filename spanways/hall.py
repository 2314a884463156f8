"""The hall: plans and answers as texts."""

from spanways.asking import asked
from spanways.errors import BadText
from spanways.plans import planned
from spanways.texts import read, ways_told


def plan_rows(names, stretches):
    rows = []
    for name, stretch in zip(names, stretches):
        rows.append(" ".join([name, str(stretch[0]), str(stretch[1])]))
    return rows


def plan_text(text, most=200):
    told = read(text)
    names = told[0]
    plan = planned(len(names), told[1], most)
    if plan[0] != "laid":
        return plan[0]
    return "\n".join(["laid"] + plan_rows(names, plan[1]))


def answer_text(text, question, most=200):
    told = read(text)
    names = told[0]
    fact = ways_told(question.split(" "), names)
    if fact is None:
        raise BadText(0)
    return asked(len(names), told[1], fact[1], fact[2], fact[3], most)[0]

"""Questions: whether one stretch must, may or never can lie to another one in a way of a set."""

from spanways.plans import planned
from spanways.ways import ALL


def asked(count, facts, i, mask, j, most=200):
    yes = planned(count, facts + [("ways", i, mask, j)], most)
    no = planned(count, facts + [("ways", i, ALL - mask, j)], most)
    if yes[0] == "open" or no[0] == "open":
        return ("open", None)
    if yes[0] == "clash" and no[0] == "clash":
        return ("clash", (yes[1], no[1]))
    if no[0] == "clash":
        return ("must", no[1])
    if yes[0] == "clash":
        return ("never", yes[1])
    return ("may", (yes[1], no[1]))

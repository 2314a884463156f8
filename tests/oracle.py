"""Nets, bounds, plans and trees as the document tells them, worked out in the plainest way, without the program.

Also what the tests draw: stretches, nets and facts, always from a seeded source, so that each run is the same.
"""

import copy
import functools
import itertools

from tests.table import LAID, OTHER, SAME, chains, members, stretches, way

ALL = 8191
CHAINS = chains(range(6))


def turn(mask):
    return int(f"{mask:013b}"[::-1], 2)


@functools.lru_cache(maxsize=None)
def chain(one, other):
    found = 0
    for first in members(one):
        for second in members(other):
            found |= CHAINS[first, second]
    return found


# Nets

def widest(count):
    return [[SAME if i == j else ALL for j in range(count)] for i in range(count)]


def narrow(net, i, mask, j):
    made = copy.deepcopy(net)
    made[i][j] = net[i][j] & mask
    made[j][i] = turn(net[i][j] & mask)
    return made


def all_threes(count):
    """In the order of point 7: by i, then j, then k."""
    return [
        (i, k, j) for i in range(count) for j in range(count) for k in range(count)
        if len({i, j, k}) == 3
    ]


def three_leaves(net, three):
    i, k, j = three
    return net[i][j] & chain(net[i][k], net[k][j])


def three_makes(net, three):
    return narrow(net, three[0], three_leaves(net, three), three[2])


def narrowing(net):
    """The threes that narrow the net."""
    return [three for three in all_threes(len(net)) if three_leaves(net, three) != net[three[0]][three[2]]]


def empty(net):
    return any(mask == 0 for row in net for mask in row)


def closed(net):
    """The closed net, or None; where sets shrink together, not one after another."""
    while not empty(net):
        threes = narrowing(net)
        if not threes:
            return net
        made = copy.deepcopy(net)
        for i, k, j in threes:
            made[i][j] &= chain(net[i][k], net[k][j])
        for i in range(len(net)):
            for j in range(len(net)):
                made[i][j] &= turn(made[j][i])
        net = made
    return None


def renumbered(net, order):
    """The net in which stretch k is what was stretch order[k]."""
    return [[net[one][other] for other in order] for one in order]


def lie_in(net, stretches):
    return all(
        net[i][j] >> way(stretches[i], stretches[j]) & 1
        for i in range(len(net)) for j in range(len(net)) if i != j
    )


# Bounds and times

def points_of(stretches):
    return [time for stretch in stretches for time in stretch]


def bounds_of(net, lengths):
    """The set of the bounds of point 11, by laying out each way of each set."""
    found = {(2 * i, 2 * i + 1, -1) for i in range(len(net))}
    for i, low, high in lengths:
        one = 2 * len(net) + 1
        found |= {(2 * i, 2 * i + 1, -low * one), (2 * i + 1, 2 * i, high * one)}
    for i in range(len(net)):
        for j in range(len(net)):
            if i != j:
                found |= pair_bounds(i, members(net[i][j]), j)
    return found


def pair_bounds(i, ways, j):
    found = set()
    for a in range(2):
        for b in range(2):
            gaps = [LAID[number][a] - OTHER[b] for number in ways]
            if all(gap < 0 for gap in gaps):
                found.add((2 * i + a, 2 * j + b, -1))
            elif all(gap <= 0 for gap in gaps):
                found.add((2 * i + a, 2 * j + b, 0))
    return found


def least_mosts(bounds):
    least = {}
    for p, q, most in bounds:
        least[p, q] = min(most, least.get((p, q), most))
    return least


def can_be_kept(points, bounds):
    """Whether some times keep the bounds: no way round leads back below 0 (all shortest ways at once)."""
    least = least_mosts(bounds)
    far = [[0 if p == q else least.get((p, q)) for q in range(points)] for p in range(points)]
    for k in range(points):
        for p in range(points):
            for q in range(points):
                if far[p][k] is not None and far[k][q] is not None:
                    through = far[p][k] + far[k][q]
                    if far[p][q] is None or through < far[p][q]:
                        far[p][q] = through
    return all(far[p][p] == 0 for p in range(points))


def kept(times, bounds):
    return all(times[p] - times[q] <= most for p, q, most in bounds)


def is_ring(ring, bounds):
    least = least_mosts(bounds)
    steps = [(ring[k], ring[k + 1]) for k in range(len(ring) - 1)]
    if len(ring) < 3 or ring[0] != ring[-1] or any(ring.count(p) > 1 for p in ring[1:-1]):
        return False
    return all(step in least for step in steps) and sum(least[step] for step in steps) < 0


# Facts, plans, trees

def fact_kept(stretches, fact):
    if fact[0] == "ways":
        _, i, mask, j = fact
        return bool(mask >> way(stretches[i], stretches[j]) & 1)
    if fact[0] == "long":
        _, i, low, high = fact
        one = 2 * len(stretches) + 1
        return low * one <= stretches[i][1] - stretches[i][0] <= high * one
    return sum(fact_kept(stretches, member) for member in fact[1]) == 1


def all_kept(stretches, facts):
    return all(fact_kept(stretches, fact) for fact in facts)


def starting_net(count, facts):
    net = widest(count)
    for fact in facts:
        if fact[0] == "ways":
            net = narrow(net, *fact[1:])
    return net


def lengths_of(facts):
    return [fact[1:] for fact in facts if fact[0] == "long"]


def groups_of(facts):
    return [fact[1] for fact in facts if fact[0] == "one"]


def next_split(net, groups):
    """(what a tree says of the split, the nets of its branches), or None."""
    if groups:
        nets = []
        for member in groups[0]:
            made = narrow(net, *member[1:])
            others = list(groups[0])
            others.remove(member)
            for _, i, mask, j in others:
                made = narrow(made, i, ALL - mask, j)
            nets.append(made)
        return ("one",), nets
    for i in range(len(net)):
        for j in range(i + 1, len(net)):
            ways = members(net[i][j])
            if len(ways) > 1:
                return ("split", i, j), [narrow(net, i, 1 << number, j) for number in ways]
    return None


def shape(tree):
    """What of a tree the document settles: all but its steps and rings."""
    if tree[0] in ("threes", "ring"):
        return tree[0]
    return (tree[0],) + tree[2:-1] + ([shape(branch) for branch in tree[-1]],)


def plan(count, facts, most):
    """(word, shape of the tree or the one net of single ways, splits)."""
    made = 0
    lengths = lengths_of(facts)

    def look(net, groups):
        nonlocal made
        net = closed(net)
        if net is None:
            return "clash", "threes"
        if not can_be_kept(2 * count, bounds_of(net, lengths)):
            return "clash", "ring"
        split = next_split(net, groups)
        if split is None:
            return "laid", net
        if made == most:
            return "open", None
        made += 1
        shapes = []
        for branch in split[1]:
            word, thing = look(branch, groups[1:])
            if word != "clash":
                return word, thing
            shapes.append(thing)
        return "clash", split[0] + (shapes,)

    word, thing = look(starting_net(count, facts), groups_of(facts))
    return word, thing, made


def is_tree(count, facts, tree):
    """Point 16, row by row."""
    lengths = lengths_of(facts)

    def stepped(net, steps):
        for three in steps:
            if empty(net) or three not in narrowing(net):
                return None
            net = three_makes(net, three)
        return net

    def holds(net, groups, tree):
        net = stepped(net, tree[1])
        if net is None or empty(net) != (tree[0] == "threes"):
            return False
        if tree[0] == "threes":
            return True
        if narrowing(net):
            return False
        if tree[0] == "ring":
            return is_ring(tree[2], bounds_of(net, lengths))
        split = next_split(net, groups)
        if split is None or split[0] != (tree[0],) + tree[2:-1] or len(split[1]) != len(tree[-1]):
            return False
        return all(holds(net, groups[1:], branch) for net, branch in zip(split[1], tree[-1]))

    return holds(starting_net(count, facts), groups_of(facts), tree)


# What is drawn

def drawn_mask(rng, share):
    return sum(1 << number for number in range(13) if rng.random() < share)


def drawn_pair(rng, count):
    return rng.sample(range(count), 2)


def drawn_net(rng, count, share, at_least=0):
    """Each set has each way by chance, and so many more."""
    net = widest(count)
    for i in range(count):
        for j in range(i + 1, count):
            net[i][j] = drawn_mask(rng, share)
            for _ in range(at_least):
                net[i][j] |= 1 << rng.randrange(13)
            net[j][i] = turn(net[i][j])
    return net


def drawn_stretches(rng, count, below):
    return [tuple(sorted(rng.sample(range(below), 2))) for _ in range(count)]


def net_around(rng, stretches, share):
    """A net that the stretches fit, with other ways besides."""
    net = drawn_net(rng, len(stretches), share)
    for i, one in enumerate(stretches):
        for j, other in enumerate(stretches):
            if i != j:
                net[i][j] |= 1 << way(one, other)
                net[j][i] |= 1 << way(other, one)
    return net


def drawn_ways(rng, count, share):
    i, j = drawn_pair(rng, count)
    return ("ways", i, drawn_mask(rng, share), j)


def drawn_facts(rng, count, ways, lengths, groups):
    share = rng.choice([0.2, 0.4, 0.6, 0.8])
    facts = [drawn_ways(rng, count, share) for _ in range(ways)]
    for _ in range(lengths):
        low = rng.randint(0, 4)
        facts.append(("long", rng.randrange(count), low, low + rng.randint(0, 2)))
    for _ in range(groups):
        facts.append(("one", [drawn_ways(rng, count, 0.3) for _ in range(rng.randint(1, 6))]))
    rng.shuffle(facts)
    return facts


def ways_fact(rng, stretches, share, so):
    """A fact of kind ways that the stretches keep, or that they do not keep."""
    i, j = drawn_pair(rng, len(stretches))
    lies = 1 << way(stretches[i], stretches[j])
    mask = drawn_mask(rng, share)
    return ("ways", i, mask | lies if so else mask & ~lies, j)


def facts_kept_by(rng, stretches, ways, lengths, groups):
    """Facts that stretches, counted in grains, keep."""
    one = 2 * len(stretches) + 1
    facts = [ways_fact(rng, stretches, rng.choice([0.1, 0.4]), True) for _ in range(ways)]
    for _ in range(lengths):
        i = rng.randrange(len(stretches))
        long = stretches[i][1] - stretches[i][0]
        facts.append(("long", i, max(0, long // one - rng.randint(0, 1)), -(-long // one) + rng.randint(0, 1)))
    for _ in range(groups):
        size = rng.randint(1, 6)
        so = rng.randrange(size)
        facts.append(("one", [ways_fact(rng, stretches, 0.2, place == so) for place in range(size)]))
    rng.shuffle(facts)
    return facts


APART = 1 | 1 << 1 | 1 << 11 | 1 << 12
INSIDE = 1 << 5 | 1 << 6 | 1 << 8 | 1 << 9


def tight_facts(rng, count, groups):
    """Some stretches that lie apart from each other in one that may be too short for them."""
    outer, *inner = rng.sample(range(count), count)
    longs = [rng.randint(1, 2) for _ in inner]
    facts = [("long", outer, 0, max(0, sum(longs) + rng.randint(-2, 1)))]
    for place, i in enumerate(inner):
        facts += [("long", i, longs[place], longs[place]), ("ways", i, INSIDE, outer)]
        for j in inner[:place]:
            facts.append(("ways", i, rng.choice([APART, APART, APART & ~1, 1 | 1 << 12, APART | 1 << 2]), j))
    for _ in range(groups):
        facts.append(("one", [drawn_ways(rng, count, 0.3) for _ in range(rng.randint(1, 4))]))
    rng.shuffle(facts)
    return facts


def too_many_in_one(count, long):
    """All but the last are 1 long, lie in the last one and apart from each other."""
    last = count - 1
    facts = [("long", last, 0, long)]
    for i in range(last):
        facts += [("long", i, 1, 1), ("ways", i, INSIDE, last)]
        facts += [("ways", i, APART, j) for j in range(i + 1, last)]
    return facts


def clash_of(splits):
    """Facts about six stretches that clash behind so many splits, from 196 to 202."""
    facts = too_many_in_one(6, 4) + [("ways", 0, APART & ~2, 3)]
    return facts + [("one", [("ways", 0, ALL, 1)])] * (splits - 196)


def short_facts(rng):
    """Facts about two stretches, both of which are at most 2 long."""
    facts = drawn_facts(rng, 2, rng.choice([0, 1]), 0, rng.choice([0, 1, 2]))
    for i in range(2):
        low = rng.randint(0, 2)
        facts.append(("long", i, low, rng.randint(low, 2)))
    return facts


@functools.lru_cache(maxsize=None)
def short_places():
    """Every way in which two such lie, in grains: the first one starts at 12, so the other one may lie anywhere."""
    return [
        [(12, 12 + long), (start, start + other)]
        for long in range(1, 11) for other in range(1, 11) for start in range(35 - other)
    ]


@functools.lru_cache(maxsize=None)
def arrangements(count):
    """For each way in which two or three stretches can lie to one another, stretches that lie so."""
    found = {}
    for laid in itertools.product(stretches(range(2 * count)), repeat=count):
        found[tuple(way(*pair) for pair in itertools.combinations(laid, 2))] = list(laid)
    return list(found.values())


def net_of(laid):
    return [[1 << way(one, other) for other in laid] for one in laid]


def arrangements_keeping(count, facts):
    """Those in which the stretches can lie where they keep the facts, some lengths among them or not."""
    others = [fact for fact in facts if fact[0] != "long"]
    return [
        laid for laid in arrangements(count)
        if all_kept(laid, others) and can_be_kept(2 * count, bounds_of(net_of(laid), lengths_of(facts)))
    ]


# What the asker does to what is told

def spoil(thing):
    """Empties every list within what was told."""
    for part in thing:
        if isinstance(part, (list, tuple)):
            spoil(part)
    if isinstance(thing, list):
        thing.clear()

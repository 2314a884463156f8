"""The ways as the document's table tells them, and what the tests work out from it by trying all stretches."""

TABLE = [
    ("ahead", 0, 0), ("joins", 0, 1), ("laps", 0, 2), ("closedby", 0, 3), ("holds", 0, 4),
    ("opens", 1, 2), ("same", 1, 3), ("openedby", 1, 4), ("within", 2, 2), ("closes", 2, 3),
    ("lappedby", 2, 4), ("joinedby", 3, 4), ("behind", 4, 4),
]

# One stretch for each way, in the order of the ways, to the stretch OTHER.
OTHER = (10, 20)
LAID = [
    (1, 5), (1, 10), (1, 15), (1, 20), (1, 25), (10, 15), (10, 20),
    (10, 25), (12, 15), (12, 20), (12, 25), (20, 25), (22, 25),
]

SAME = 1 << 6
EVERY_SET = range(8192)


def members(mask):
    """The ways of a set, rising."""
    return [number for number in range(13) if mask >> number & 1]


def stretches(times):
    return [(start, end) for start in times for end in times if start < end]


def zone(time, stretch):
    """Counted otherwise than in the program: one step for each end that is reached, one for each passed."""
    return sum((time >= edge) + (time > edge) for edge in stretch)


def way(one, other):
    """The number of the row of the table in which two stretches lie."""
    pair = (zone(one[0], other), zone(one[1], other))
    return [row[1:] for row in TABLE].index(pair)


def chains(times):
    """For each (first way, second way) the set of third ways that some three stretches show."""
    found = {}
    spans = stretches(times)
    ways = {(one, other): way(one, other) for one in spans for other in spans}
    for one in spans:
        for two in spans:
            for three in spans:
                key = (ways[one, two], ways[two, three])
                found[key] = found.get(key, 0) | 1 << ways[one, three]
    return found


def rectangles():
    """Every set that is tame, by trying all zones a <= b and c <= d."""
    found = set()
    bounds = [(low, high) for low in range(5) for high in range(low, 5)]
    for a, b in bounds:
        for c, d in bounds:
            found.add(sum(
                1 << number for number, (_, start, end) in enumerate(TABLE)
                if a <= start <= b and c <= end <= d
            ))
    found.discard(0)
    return found

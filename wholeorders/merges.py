"""The orders in which two patterns overlap so that each thing belongs to one of them at least."""


def merges(one, other):
    """Return the list of the orders whose things are those of a place of the one and a place of the other one."""
    ways = ascents(len(one), len(other))
    by_shared = {}
    for way in ways:
        by_shared.setdefault(shared(way), []).append(way)
    found = []
    for way in ways:
        numbers = [(one[i - 1] if i else 0, other[j - 1] if j else 0) for i, j in way]
        for rising in by_shared.get(shared(numbers), []):
            ranks = {pair: at + 1 for at, pair in enumerate(rising)}
            found.append(tuple([ranks[pair] for pair in numbers]))
    return found


def ascents(many, more):
    """Return all rows of pairs in which 1 to many and 1 to more ascend, a pair with one 0 being of one of them."""
    found = []
    unfinished = [((), 0, 0)]
    while unfinished:
        way, i, j = unfinished.pop()
        if i == many and j == more:
            found.append(way)
        if i < many:
            unfinished.append((way + ((i + 1, 0),), i + 1, j))
        if j < more:
            unfinished.append((way + ((0, j + 1),), i, j + 1))
        if i < many and j < more:
            unfinished.append((way + ((i + 1, j + 1),), i + 1, j + 1))
    return found


def shared(way):
    """Return the ascending tuple of the pairs of a row that are of both."""
    return tuple(sorted([pair for pair in way if pair[0] and pair[1]]))

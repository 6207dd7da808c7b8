"""Slow ways to hooked patterns, measures, facts, traits and what is put together of these, straight from the document."""

from itertools import combinations

from tests.helpers import NO_PATTERNS, slow_blocks, slow_pattern, slow_places

MEASURES = ("things", "turns", "drops", "tops", "parts")
EVEN = ("rest", "things", 2, 0)
SIX_DEEP = ("not", ("both", ("not", ("either", ("shows", (2, 1), (0,)), ("not", ("least", "tops", 2)))), EVEN))
EIGHT_LEAVES = (
    "both", ("either", ("both", EVEN, ("shows", (2, 1), (-1,))), ("both", ("least", "turns", 3), ("shows", (1, 2), (1,)))),
    ("either", ("not", ("either", ("rest", "parts", 3, 1), ("shows", (2, 1), (-1,)))),
     ("both", ("rest", "drops", 1, 0), ("least", "things", 0))))
FACTS = (
    EVEN, ("shows", (2, 1), ()), ("shows", (2, 1), (0,)), ("shows", (1, 2), (-1,)), ("shows", (1, 2), (1,)),
    ("shows", (1,), (-1, 0)), ("shows", (1, 3, 2), (-1, 1)), ("shows", (2, 1, 3), (-1, 0, 1, 2)),
    ("shows", (2, 3, 1), (2,)), ("shows", (1, 2, 3), (1,)), ("rest", "turns", 2, 1), ("rest", "turns", 3, 0),
    ("rest", "things", 1, 0), ("rest", "drops", 2, 0), ("rest", "tops", 3, 2), ("rest", "parts", 2, 1),
    ("least", "things", 0), ("least", "turns", 4), ("least", "drops", 1), ("least", "tops", 2), ("least", "parts", 2),
    ("not", ("least", "turns", 2)), ("both", ("rest", "turns", 2, 0), ("least", "things", 3)),
    ("either", ("shows", (2, 1), (0,)), ("shows", (2, 1), (0,))),
    ("both", ("rest", "turns", 2, 0), ("not", ("shows", (1, 2), (-1,)))), SIX_DEEP, EIGHT_LEAVES)
NO_MEASURES = (None, 3, "", "thing", "Things", ("things",), ["things"], True)
NO_HOOKED = tuple((pattern, ()) for pattern in NO_PATTERNS) + (
    None, 3, "", (), ((2, 1),), ((2, 1), (), ()), [(2, 1), ()], ((2, 1), None), ((2, 1), []), ((2, 1), [0]), ((2, 1), 0),
    ((2, 1), (2,)), ((2, 1), (-2,)), ((2, 1), (1, 0)), ((2, 1), (0, 0)), ((2, 1), (True,)), ((2, 1), (0, False)),
    ((2, 1), ("0",)), ((2, 1), (None,)), (2, 1), ((2, 1), (-1, 0, 1, 2)))
NO_FACTS = tuple(("shows", told[0], told[1]) for told in NO_HOOKED if isinstance(told, tuple) and len(told) == 2) + tuple(
    ("rest", name, 2, 0) for name in NO_MEASURES) + tuple(("least", name, 2) for name in NO_MEASURES) + (
    None, 3, "", "shows", (), [], ("shows",), ("shows", (2, 1)), ("shows", (2, 1), (), ()), ["shows", (2, 1), ()],
    ("rest", "things", 0, 0), ("rest", "things", 2, 2), ("rest", "things", 2, -1), ("rest", "things", -2, 0),
    ("rest", "things", True, 0), ("rest", "things", 2, True), ("rest", "things", 2), ("rest", "things", 2, 0, 0),
    ("rest", "things", "2", 0), ("rest", "things", 2, None), ("least", "things", -1), ("least", "things", True),
    ("least", "things"), ("least", "things", 1, 1), ("least", "things", None), ("most", "things", 1), ("both", EVEN),
    ("both", EVEN, EVEN, EVEN), ("both", EVEN, None), ("both", None, EVEN), ("both", EVEN, list(EVEN)), ("either", EVEN),
    ("either", EVEN, ("rest", "things", 2, 2)), ("either", EVEN, EVEN, EVEN), ("not",), ("not", EVEN, EVEN), ("not", None),
    ("not", ["shows", (2, 1), ()]), (EVEN,), EVEN + (0,), ["not", EVEN], ("not", ("not", ("shows", (2, 1), (2,)))), {})


def slow_meetings(order, hooked):
    """Return the tuples of places at which an order shows a hooked pattern."""
    pattern, bonds = hooked
    found = []
    for places in slow_places(order, pattern):
        ends = (-1,) + places + (len(order),)
        if all(ends[bond + 2] == ends[bond + 1] + 1 for bond in bonds):
            found.append(places)
    return found


def slow_measure(order, name):
    """Return a measure of an order."""
    pairs = list(combinations(range(len(order)), 2))
    return {
        "things": len(order), "turns": sum(order[i] > order[j] for i, j in pairs),
        "drops": sum(order[i] > order[j] and j == i + 1 for i, j in pairs),
        "tops": sum(all(ahead < number for ahead in order[:at]) for at, number in enumerate(order)),
        "parts": sum(sorted(order[:end]) == list(range(1, end + 1)) for end in range(1, len(order) + 1))}[name]


def slow_truth(fact, order):
    """Tell whether a fact is true of an order."""
    kind, told = fact[0], fact[1:]
    if kind == "shows":
        return bool(slow_meetings(order, told))
    if kind == "rest":
        return slow_measure(order, told[0]) % told[1] == told[2]
    if kind == "least":
        return slow_measure(order, told[0]) >= told[1]
    inner = [slow_truth(one, order) for one in told]
    return {"both": all(inner), "either": any(inner), "not": not inner[0]}[kind]


def slow_leaves(fact):
    """Return the facts from the left of which a fact is put together."""
    if fact[0] in ("both", "either", "not"):
        return [leaf for inner in fact[1:] for leaf in slow_leaves(inner)]
    return [fact]


def slow_hooked(forbidden, fact):
    """Return the hooked patterns that count."""
    return [(pattern, ()) for pattern in forbidden] + [leaf[1:] for leaf in slow_leaves(fact) if leaf[0] == "shows"]


def slow_counting(fact):
    """Return the (measure, modulus, number) that count; the modulus is a common multiple by trying."""
    found = []
    leaves = slow_leaves(fact)
    for name in MEASURES:
        names = ("things", "turns") if name == "things" else (name,)
        told = [leaf for leaf in leaves if leaf[0] != "shows" and leaf[1] in names]
        if told:
            moduli = [leaf[2] for leaf in told if leaf[0] == "rest"]
            modulus = 1
            while any(modulus % one for one in moduli):
                modulus += 1
            found.append((name, modulus, max([leaf[2] for leaf in told if leaf[0] == "least"], default=0)))
    return found


def slow_kind(order):
    """Return 0 of one thing, 1 in parts, 2 in skew parts, else 3."""
    if len(order) == 1:
        return 0
    ends = [end for start, end in slow_blocks(order) if start == 0 and end < len(order)]
    if any(1 in order[:end] for end in ends if sorted(order[:end])[0] == 1):
        return 1
    return 2 if any(len(order) in order[:end] for end in ends) else 3


def slow_traits(forbidden, fact, order):
    """Return the traits of an order, by all tuples of places."""
    pieces = set()
    for index, (pattern, bonds) in enumerate(slow_hooked(forbidden, fact)):
        for start, end in combinations(range(len(pattern) + 1), 2):
            inner = tuple(bond - start for bond in bonds if start <= bond <= end - 2)
            for places in slow_meetings(order, (slow_pattern(pattern[start:end]), inner)):
                for left in (0, 1):
                    for right in (0, 1):
                        if (not left or places[0] == 0) and (not right or places[-1] == len(order) - 1):
                            pieces.add((index, start, end, left, right))
    numbers = []
    for name, modulus, number in slow_counting(fact):
        many = slow_measure(order, name)
        numbers.append((name, many % modulus, min(many, number)))
    return slow_kind(order), tuple(sorted(pieces)), tuple(numbers)


def cuts(start, end):
    """Return all ways to cut the things from start to end - 1 into stretches."""
    inner = range(start + 1, end)
    for many in range(len(inner) + 1):
        for chosen in combinations(inner, many):
            ends = (start,) + chosen + (end,)
            yield list(zip(ends, ends[1:]))


def fits(node, pattern, stretches, children):
    """Tell whether things of two children compare as the node's numbers do."""
    dealt = [(child, thing) for child, stretch in zip(children, stretches) for thing in range(*stretch)]
    return all((pattern[one] < pattern[other]) == (node[child] < node[second])
               for child, one in dealt for second, other in dealt if child != second)


def slow_has(node, index, hooked, piece, rows):
    """Tell whether what is put together has a piece, by all ways to deal it out."""
    pattern, bonds = hooked
    start, end, left, right = piece
    for stretches in cuts(start, end):
        for children in combinations(range(len(node)), len(stretches)):
            if (left and children[0] != 0) or (right and children[-1] != len(node) - 1):
                continue
            if not fits(node, pattern, stretches, children):
                continue
            tied = [stretch[1] - 1 in bonds for stretch in stretches[:-1]]
            if any(tie and children[at + 1] != children[at] + 1 for at, tie in enumerate(tied)):
                continue
            sides = [left] + [int(tie) for tie in tied] + [right]
            asked = [(index,) + stretch + (sides[at], sides[at + 1]) for at, stretch in enumerate(stretches)]
            if all(one in rows[child][1] for one, child in zip(asked, children)):
                return True
    return False


def slow_put(forbidden, fact, node, rows):
    """Return what is put together of a node and rows."""
    pieces = []
    for index, hooked in enumerate(slow_hooked(forbidden, fact)):
        for start, end in combinations(range(len(hooked[0]) + 1), 2):
            for sides in ((0, 0), (0, 1), (1, 0), (1, 1)):
                if slow_has(node, index, hooked, (start, end) + sides, rows):
                    pieces.append((index, start, end) + sides)
    told = [{name: tally for name, *tally in row[2]} for row in rows]
    numbers = []
    for name, modulus, number in slow_counting(fact):
        sums = [slow_sum(node, name, told, which) for which in (0, 1)]
        numbers.append((name, sums[0] % modulus, min(sums[1], number)))
    return {(1, 2): 1, (2, 1): 2}.get(node, 3), tuple(sorted(pieces)), tuple(numbers)


def slow_sum(node, name, told, which):
    """Return the sum of one measure over the children of a node, of rests if which is 0, else of what is few."""
    pairs = list(combinations(range(len(node)), 2))
    if name == "parts" and node != (1, 2):
        return 1
    if name == "tops":
        return sum(row[name][which] for at, row in enumerate(told) if node[at] == max(node[:at + 1]))
    total = sum(row[name][which] for row in told)
    if name == "drops":
        total += sum(node[i] > node[j] for i, j in pairs if j == i + 1)
    if name == "turns":
        total += sum(told[i]["things"][which] * told[j]["things"][which] for i, j in pairs if node[i] > node[j])
    return total

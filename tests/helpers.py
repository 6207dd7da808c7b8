"""What tests of several files need: slow ways to the same answers, straight from what the document says."""

import functools
import unittest
from fractions import Fraction
from itertools import combinations, permutations, product

THREE_KINDS_STOPPED = ((2, 3, 1),)
TWO = ((2, 3, 1), (3, 1, 2))
RISING = ((2, 1),)
NOTHING = ((1,),)
MOST_STATES = ((4, 2, 3, 1, 5), (1, 2, 3, 4, 5), (1, 4, 5, 2, 3), (3, 5, 4, 2, 1), (4, 2, 3, 1), (3, 4, 1, 2))

NO_INTEGERS = (None, "1", "", (1,), [1], True, False, {})
NO_NUMBERS = NO_INTEGERS + (-1, -7)
NO_ORDERS = (None, 3, "12", [1, 2], (1, 3), (0, 1), (1, 1), (2,), (1, "2"), (True,), (True, 2), (1, None), ((1,),), {})
NO_PATTERNS = NO_ORDERS + ((),)
NO_LISTS = (None, 3, "", "12", [], [(1,)], (1, 2), ((),), ((1, 2), ()), ((1, 2), [2, 1]), ((1, 3),), (None,), ((True,),))

LISTS = (
    (), NOTHING, ((1, 2),), RISING, ((1, 2), (2, 1)), THREE_KINDS_STOPPED, TWO, ((3, 2, 1),), ((1, 2, 3), (3, 2, 1)),
    ((2, 3, 1), (1, 3, 2)), ((2, 3, 1), (2, 3, 1)), ((2, 4, 1, 3), (3, 1, 4, 2)), ((1, 3, 2, 4), (2, 1), (1, 2, 3)),
    ((1, 2, 3), (3, 4, 1, 2)), ((4, 3, 2, 1), (1, 2, 3, 4)), ((2, 4, 1, 3),), ((3, 1, 2), (1, 2, 3, 4), (2, 1, 4, 3)))

STOPPING_LISTS = (
    NOTHING, ((1, 2),), RISING, ((1, 2), (2, 1)), TWO, ((1, 2, 3), (3, 2, 1)), ((2, 3, 1), (1, 3, 2)),
    ((1, 2, 3), (2, 3, 1)), ((1, 2, 3), (2, 3, 1), (1, 4, 3, 2)), ((2, 3, 1), (1, 2, 3, 4)),
    ((1, 2, 3), (2, 1, 4, 3), (4, 3, 2, 1)), ((4, 3, 2, 1), (1, 2, 3, 4)), ((1, 3, 2, 4), (3, 2, 1), (2, 4, 1, 3)),
    ((2, 1, 4, 3), (3, 4, 1, 2), (1, 4, 2, 3), (3, 2, 1, 4)), ((2, 3, 1), (4, 3, 1, 2)), ((4, 1, 3, 2), (2, 3, 1, 4)),
    ((3, 1, 2), (2, 3, 1), (3, 2, 1, 4)), ((2, 3, 4, 1, 5), (3, 2, 1)),
    ((2, 3, 1), (2, 3, 1), (1, 2, 3, 5, 4), (4, 3, 2, 1)),
    ((5, 2, 1, 3, 4), (1, 4, 3, 5, 2), (1, 3, 2, 4), (1, 2, 3), (3, 2, 5, 1, 4)))

STAIRS = ((3, 2, 1), (2, 3, 4, 1), (3, 4, 1, 2), (4, 1, 2, 3))
FEW_LISTS = (
    NOTHING, ((1, 2),), RISING, ((1, 2), (2, 1)), ((2, 3, 1),), TWO, ((1, 2, 3), (3, 2, 1)),
    ((2, 4, 1, 3), (3, 1, 4, 2)), ((1, 2, 3), (4, 3, 2, 1)), STAIRS + ((2, 4, 1, 5, 3),),
    ((3, 2, 1), (3, 1, 2, 4)), ((1, 3, 2),), STAIRS + ((2, 1, 4, 3, 6, 5),), ((1, 2, 3, 4, 5), (3, 2, 1)),
    ((1, 2, 3, 4), (3, 4, 1, 2), (4, 2, 3, 1)), ((2, 4, 3, 1), (2, 3, 1, 4, 5), (2, 4, 1, 5, 3), (3, 1, 4, 2)),
    ((3, 1, 2, 4), (2, 1, 5, 4, 3), (3, 5, 2, 1, 4), (4, 5, 1, 2, 3), (5, 2, 4, 1, 3)))
FAMILY_LISTS = (
    ((), ("between", 0)), (((2, 1, 3, 4),), ("between", 0)), (((2, 4, 3, 1),), ("between", 1)),
    (((2, 3, 1, 4),), ("between", 2)), (((1, 4, 3, 2),), ("between", 3)),
    (((3, 2, 1, 4), (4, 2, 1, 3)), ("between", 4)), (((2, 3, 4, 1), (3, 2, 4, 1)), ("between", 5)),
    (((3, 1, 2, 4), (4, 1, 2, 3)), ("between", 6)), (((1, 4, 3, 2), (3, 4, 2, 1)), ("between", 7)),
    (((1, 3, 4, 2), (2, 3, 1, 4)), ("open", 0)), (((1, 4, 3, 2), (4, 1, 2, 3)), ("open", 1)),
    (((3, 1, 2, 4), (4, 2, 1, 3)), ("open", 4)), (((1, 4, 3, 2), (2, 3, 4, 1)), ("open", 5)),
    (((3, 2, 1),), ("parallel", 0)), (((1, 2, 3),), ("parallel", 1)), (((3, 2, 1), (2, 4, 1, 3)), ("parallel", 4)),
    (((1, 2, 3), (3, 1, 4, 2)), ("parallel", 5)), (((2, 4, 1, 3),), ("between", 1)))
ROAD_LISTS = (
    (STAIRS, ((1, "r", "d"), ("l", "d"))), (((1, 2, 3), (1, 4, 3, 2)), ((1, "d", "l"), ("u", "l"))),
    (((3, 4, 1, 2), (4, 3, 2, 1)), ((1, "d", "l", "d"), ("l", "d"))),
    (((1, 2, 3, 4), (2, 1, 4, 3)), ((1, "d", "l", "u"), ("l", "u"))),
    (((1, 3, 4, 2), (1, 4, 3, 2), (1, 2, 3, 4, 5)), ((1, "r", "u"), ("l", "u"))),
    (((1, 4, 3, 2), (2, 1, 3, 4, 5)), ((1, "d", "l", "d", "r"), ("d", "r"))),
    (((1, 2, 3, 4, 5), (4, 3, 2, 1, 5)), ((1, "r", "d", "r", "u", "l"), ("u", "l"))),
    (((2, 3, 4, 1), (3, 2, 1, 4), (3, 1, 5, 2, 4), (3, 5, 4, 1, 2)),
     ((1, "u", "r", "d", "l"), ("u", "l", "d", "l"))))

ENDLESS_LISTS = (
    ((), (-1, -1)), (((1, 2, 3), (3, 4, 1, 2)), (-1, -1)), (((3, 1, 2),), (-1, 1)), (((2, 4, 1, 3),), (-1, 1)),
    (((2, 3, 1),), (1, -1)), (((3, 2, 1), (2, 1, 4, 3)), (1, 1)))


def all_orders(n):
    """Return all orders of n things, ascending."""
    return list(permutations(range(1, n + 1)))


def orders_to(n):
    """Return all orders of at most n things."""
    return [order for many in range(n + 1) for order in all_orders(many)]


def compares_as(numbers, pattern):
    """Tell whether of each two of the numbers these compare as the pattern's do."""
    pairs = list(combinations(range(len(pattern)), 2))
    return all((numbers[i] < numbers[j]) == (pattern[i] < pattern[j]) for i, j in pairs)


def slow_places(order, pattern):
    """Return all tuples of places at which an order shows a pattern, by trying them all."""
    chosen = combinations(range(len(order)), len(pattern))
    return [places for places in chosen if compares_as([order[place] for place in places], pattern)]


def slow_pattern(numbers):
    """Return the order that compares as the numbers."""
    return tuple(sorted(numbers).index(number) + 1 for number in numbers)


def slow_lets(forbidden, order):
    """Tell whether an order shows none of a list."""
    return not any(slow_places(order, pattern) for pattern in forbidden)


def slow_blocks(order):
    """Return all stretches of places whose numbers are a stretch of integers."""
    found = []
    for start in range(len(order)):
        for end in range(start + 1, len(order) + 1):
            numbers = sorted(order[start:end])
            if numbers == list(range(numbers[0], numbers[0] + len(numbers))):
                found.append((start, end))
    return found


def slow_is_simple(order):
    """Tell whether an order is simple, as the document says it."""
    trivial = [(at, at + 1) for at in range(len(order))] + [(0, len(order))]
    return len(order) >= 4 and sorted(trivial) == slow_blocks(order)


@functools.lru_cache(maxsize=None)
def all_simple(n):
    """Return all simple orders of n things, ascending."""
    return [order for order in all_orders(n) if slow_is_simple(order)]


def simple_to(n):
    """Return all simple orders of at most n things, by length and then as tuples."""
    return [order for many in range(4, n + 1) for order in all_simple(many)]


def left_of(order):
    """Return the set of the orders that are left of an order without one thing."""
    return {slow_pattern(order[:at] + order[at + 1:]) for at in range(len(order))}


def all_pin_words(n):
    """Return all pin words of n letters, ascending."""
    if n == 0:
        return [()]
    found = []
    for word in product((1, 2, 3, 4), *["dlru"] * (n - 1)):
        if all((word[at] in "ud") != (word[at - 1] in "ud") for at in range(2, n)):
            found.append(word)
    return found


def slow_pins(word):
    """Return the (x, y) of the things of a pin word about the point (0, 0)."""
    pins = []
    for letter in word:
        ahead = [(0, 0)] + pins
        left, right = min(x for x, _ in ahead), max(x for x, _ in ahead)
        low, high = min(y for _, y in ahead), max(y for _, y in ahead)
        x = between([x for x, _ in ahead]) if letter in ("u", "d") else None
        y = between([y for _, y in ahead]) if letter in ("l", "r") else None
        if letter in (1, 4, "r"):
            x = right + 1
        if letter in (2, 3, "l"):
            x = left - 1
        if letter in (1, 2, "u"):
            y = high + 1
        if letter in (3, 4, "d"):
            y = low - 1
        pins.append((x, y))
    return pins


def between(numbers):
    """Return a number between the last one, which is the least or the greatest of all, and the one next to it."""
    others = numbers[:-1]
    near = max(others) if numbers[-1] > max(others) else min(others)
    return Fraction(numbers[-1] + near) / 2


def slow_pin_order(word, fewer=()):
    """Return the order of a pin word, without the things of some indexes."""
    pins = sorted(pin for at, pin in enumerate(slow_pins(word)) if at not in fewer)
    return slow_pattern([y for _, y in pins])


def slow_forms(order):
    """Return the forms on the way to an order: what is left of it if all numbers from some one on are slots."""
    forms = []
    for known in range(len(order) + 1):
        form = []
        for number in order:
            entry = number if number <= known else 0
            if entry or not form or form[-1]:
                form.append(entry)
        forms.append(tuple(form))
    return forms


def slow_letter(form, after):
    """Return the letter that leads from one form to the next one."""
    number = max(after)
    place = after.index(number)
    left = place > 0 and after[place - 1] == 0
    right = place + 1 < len(after) and after[place + 1] == 0
    slot = len([at for at in range(place) if after[at] == 0]) + (0 if left else 1)
    return slot, {(True, True): 0, (False, True): 1, (True, False): 2, (False, False): 3}[(left, right)]


def slow_word(order):
    """Return the whole word of an order."""
    forms = slow_forms(order)
    return tuple(slow_letter(forms[at], forms[at + 1]) for at in range(len(order)))


def reached(machine):
    """Return the states of a machine as they are met breadth first, letters ascending."""
    met = [0]
    for state in met:
        for _, after in machine[0][state]:
            if after not in met:
                met.append(after)
    return met


def state_classes(machine):
    """Return the class of each state, two being of one if the same words lead from them to an end (Moore)."""
    rows, ends = machine
    kinds = [state in ends for state in range(len(rows))]
    while True:
        signs = [(kinds[state], tuple((letter, kinds[after]) for letter, after in rows[state]))
                 for state in range(len(rows))]
        names = {}
        for sign in signs:
            names.setdefault(sign, len(names))
        finer = [names[sign] for sign in signs]
        if len(set(finer)) == len(set(kinds)):
            return finer
        kinds = finer


def leads_to_end(machine):
    """Return the set of the states from which some word leads to an end."""
    rows, ends = machine
    found = set(ends)
    while True:
        more = {state for state, row in enumerate(rows) if any(after in found for _, after in row)} | found
        if more == found:
            return found
        found = more


def is_least_machine(machine):
    """Tell whether a machine is the least one of its words, numbered as the document says."""
    if not leads_to_end(machine) & {0}:
        return machine == (((),), ())
    states = list(range(len(machine[0])))
    return (reached(machine) == states and leads_to_end(machine) == set(states)
            and len(set(state_classes(machine))) == len(states))


class Case(unittest.TestCase):
    """A test that asks for errors by their class and value."""

    def assert_raises(self, kind, value, function, *told, **named):
        with self.assertRaises(kind) as caught:
            function(*told, **named)
        self.assertIs(type(caught.exception), kind)
        self.assertEqual(caught.exception.value, value)
        self.assertIs(type(caught.exception.value), type(value))

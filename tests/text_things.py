"""Things that have texts, with the texts written out by other means than the program's."""

import random

from tests.helpers import (FAMILY_LISTS, FEW_LISTS, LISTS, MOST_STATES, RISING, ROAD_LISTS, STOPPING_LISTS, all_orders, all_pin_words,
                           orders_to)
from tests.slow_facts import FACTS
from wholeorders.blocks import put_together, shape
from wholeorders.machines import machine
from wholeorders.roads import fate
from wholeorders.slots import word_of

WAYS = {0: "m", 1: "l", 2: "r", 3: "f"}
FORTY = tuple(range(40, 0, -1))
MIXED = tuple(range(2, 41, 2)) + tuple(range(1, 40, 2))
ORDERS = tuple(orders_to(4)) + (FORTY, MIXED, tuple(range(1, 41)), (2, 4, 6, 1, 3, 5), (10, 9, 8, 7, 6, 5, 4, 3, 2, 1))
WORDS = ((),) + tuple(word_of(order) for order in ORDERS[1:]) + (
    ((7, 0),), ((1, 3), (1, 3), (2, 2)), ((999999999, 1), (10, 2)), ((3, 0),) * 60)
TWO_HUNDRED = (tuple((((1, 0), (at + 1) % 200), ((12, 3), at)) for at in range(200)), tuple(range(0, 200, 7)))
MACHINES = tuple(machine(forbidden) for forbidden in STOPPING_LISTS) + (
    (((),), ()), (((),), (0,)), (((), ()), (0, 1)), (((((1, 0), 0), ((2, 1), 0), ((2, 3), 0)),), (0,)), TWO_HUNDRED,
    machine(MOST_STATES))
PINS = tuple(word for n in range(4) for word in all_pin_words(n)) + ((3,) + ("u", "l") * 29 + ("u",),)
DEEP_SAYING = ("sorted", "bubble")
DEEP_FACT = ("rest", "tops", 9, 8)
for _ in range(11):
    DEEP_SAYING = ("mirrored", DEEP_SAYING)
    DEEP_FACT = ("not", DEEP_FACT)
SAYINGS = tuple(("list", forbidden) for forbidden in LISTS) + tuple(
    ("sorted", name) for name in ("stack", "popper", "queues", "bubble")) + (
    ("turned", ("list", RISING)), ("mirrored", ("sorted", "stack")), ("inverse", ("list", ())),
    ("both", ("sorted", "stack"), ("turned", ("list", ((2, 1, 3),)))),
    ("either", ("list", ((1, 2), (2, 1))), ("both", ("list", ()), ("inverse", ("sorted", "queues")))), DEEP_SAYING)
SHAPES = tuple(shape(order) for order in ORDERS[1:] + tuple(all_orders(5)[::5])) + (
    shape(put_together((2, 4, 1, 3), ((1, 2), (2, 4, 1, 3), (1,), (2, 1)))),)
ALL_FACTS = FACTS + (
    DEEP_FACT, ("rest", "turns", 999999999, 999999998), ("least", "parts", 0), ("shows", (5, 1, 4, 2, 3), (-1, 0, 1, 2, 3, 4)))
PAPERS = tuple(fate(forbidden) for forbidden in FEW_LISTS[:12]) + tuple(
    ("family", kind) for _, kind in FAMILY_LISTS) + tuple(("pins", seed, way) for _, (seed, way) in ROAD_LISTS) + (
    ("few", (), 999999999), ("few", ((2, 4, 1, 3),), 7), ("few", ((3, 1, 4, 2), (2, 4, 1, 5, 3)), 6))
CHANCE = random.Random(11)


def order_text(order):
    """Return the text of an order."""
    return " ".join(map(str, order)) or "-"


def list_text(forbidden):
    """Return the text of a list."""
    return ", ".join(map(order_text, forbidden)) or "-"


def word_text(word):
    """Return the text of a word."""
    return " ".join(f"{slot}{WAYS[way]}" for slot, way in word) or "-"


def machine_text(told):
    """Return the text of a machine."""
    lines = []
    for state, row in enumerate(told[0]):
        steps = ", ".join(f"{word_text((letter,))} {after}" for letter, after in row) or "-"
        lines.append(f"{state}{' end' * (state in told[1])} : {steps}")
    return "\n".join(lines)


def saying_text(saying):
    """Return the text of a saying."""
    if saying[0] == "list":
        return f"(list [{list_text(saying[1])}])"
    return f"({' '.join(saying_text(one) if isinstance(one, tuple) else one for one in saying)})"


def pin_text(word):
    """Return the text of a pin word."""
    return " ".join(map(str, word)) or "-"


def shape_text(told):
    """Return the text of a shape."""
    if told == ("one",):
        return "o"
    if told[0] == "simple":
        return f"([{order_text(told[1])}] {' '.join(map(shape_text, told[2]))})"
    return f"({'+' if told[0] == 'sum' else '-'} {shape_text(told[1])} {shape_text(told[2])})"


def fact_text(fact):
    """Return the text of a fact."""
    if fact[0] == "shows":
        return f"(shows [{order_text(fact[1])}]{''.join(f' {bond}' for bond in fact[2])})"
    return f"({' '.join(fact_text(one) if isinstance(one, tuple) else str(one) for one in fact)})"


def fate_text(paper):
    """Return the text of a paper."""
    if paper[0] == "few":
        return "\n".join([f"few {paper[2]}"] + [order_text(order) for order in paper[1]])
    if paper[0] == "family":
        return f"family {paper[1][0]} {paper[1][1]}"
    return f"pins {pin_text(paper[1])} / {pin_text(paper[2])}"


THINGS = {
    "order": (ORDERS, order_text), "list": (LISTS + ((ORDERS[3:23]),), list_text), "word": (WORDS, word_text),
    "machine": (MACHINES, machine_text), "saying": (SAYINGS, saying_text), "pin": (PINS, pin_text),
    "shape": (SHAPES, shape_text), "fact": (ALL_FACTS, fact_text), "fate": (PAPERS, fate_text)}


def bent_texts(text):
    """Return texts that have a sign more, fewer or another one, or two signs exchanged."""
    found = []
    for at in range(len(text) + 1):
        for sign in CHANCE.sample(" 0123456789-,()[]:/\nmlrfudoe", 3) + [" "]:
            found.append(text[:at] + sign + text[at:])
            found.append(text[:at] + sign + text[at + 1:])
        found.append(text[:at] + text[at + 1:])
        found.append(text[:at] + text[at:at + 2][::-1] + text[at + 2:])
    return found

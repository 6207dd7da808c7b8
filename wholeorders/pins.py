"""Pin words, their orders, and the pin words whose orders a list lets."""

from wholeorders.blocks import is_simple
from wholeorders.errors import InvalidPin
from wholeorders.integers import check_number, is_integer
from wholeorders.lists import check_list, does_let
from wholeorders.patterns import check_order, ranks_of
from wholeorders.tracks import COMING, CORNERS, START, UP_DOWN, rows_of

POINT = -1
TURNED = {1: 2, 2: 1, 3: 4, 4: 3, "l": "r", "r": "l", "u": "u", "d": "d"}
MIRRORED = {1: 4, 4: 1, 2: 3, 3: 2, "u": "d", "d": "u", "l": "l", "r": "r"}
INVERSE = {1: 1, 3: 3, 2: 4, 4: 2, "r": "u", "u": "r", "l": "d", "d": "l"}


def is_pin_word(told):
    """Tell whether something is a pin word."""
    if not isinstance(told, tuple):
        return False
    before = START
    for letter in told:
        # True is found among the quadrants, so integers and texts are asked for first.
        if not is_integer(letter) and not isinstance(letter, str):
            return False
        if letter not in COMING[before]:
            return False
        before = letter
    return True


def check_pin(word):
    """Raise InvalidPin for what is no pin word."""
    if not is_pin_word(word):
        raise InvalidPin(word)


def pinned(word):
    """Return the lists of the things of a pin word, by their indexes, from the left and from below; with the point."""
    across = [POINT]
    upward = [POINT]
    for at, letter in enumerate(word):
        if at == 0:
            to_side, to_top = CORNERS[letter]
            set_out(across, to_side, 0)
            set_out(upward, to_top, 0)
        elif letter in UP_DOWN:
            set_out(upward, letter, at)
            set_beside(across, at)
        else:
            set_out(across, letter, at)
            set_beside(upward, at)
    return across, upward


def set_out(row, letter, at):
    """Put a thing to the end of a row to which a direction leads."""
    if letter == "r" or letter == "u":
        row.append(at)
    else:
        row.insert(0, at)


def set_beside(row, at):
    """Put a thing just inside of the one ahead of it, which stands at one end of a row."""
    row.insert(len(row) - 1 if row[-1] == at - 1 else 1, at)


def order_of_pins(word, fewer=()):
    """Return the order of a pin word, which is not checked, without some things, told by their indexes in the word."""
    across, upward = pinned(word)
    heights = {at: height for height, at in enumerate(upward)}
    return ranks_of([heights[at] for at in across if at != POINT and at not in fewer])


def pin_order(word):
    """Return the order of a pin word."""
    check_pin(word)
    return order_of_pins(word)


def pin_places(word):
    """Return the tuple of the places of the things of a pin word, in the sequence of the word."""
    check_pin(word)
    things = [at for at in pinned(word)[0] if at != POINT]
    return tuple([things.index(at) for at in range(len(word))])


def pin_words(order):
    """Return the list of all pin words that lead to an order, ascending as tuples."""
    check_order(order)
    words = [()]
    for _ in range(len(order)):
        words = [word + (letter,) for word in words for letter in COMING[word[-1] if word else START]]
    return [word for word in words if order_of_pins(word) == order]


def turned_pin(word):
    """Return the pin word of the order turned about."""
    check_pin(word)
    return tuple([TURNED[letter] for letter in word])


def mirrored_pin(word):
    """Return the pin word of the mirrored order."""
    check_pin(word)
    return tuple([MIRRORED[letter] for letter in word])


def inverse_pin(word):
    """Return the pin word of the inverse order."""
    check_pin(word)
    return tuple([INVERSE[letter] for letter in word])


def left_out(word):
    """Return the first of (), (0,), (1,) without whose things the order of a pin word is simple, or None."""
    check_pin(word)
    for fewer in ((), (0,), (1,)):
        if is_simple(order_of_pins(word, fewer)):
            return fewer
    return None


def pin_lets(forbidden, word):
    """Tell whether a list lets the order of a pin word."""
    check_pin(word)
    check_list(forbidden)
    return does_let(forbidden, order_of_pins(word))


def pin_machine(forbidden):
    """Return the rows of the least machine of the pin words whose orders a list lets."""
    check_list(forbidden)
    return rows_of(forbidden)


def pin_count(forbidden, n):
    """Return how many pin words of n letters there are whose orders a list lets."""
    check_list(forbidden)
    check_number(n)
    rows = rows_of(forbidden)
    ways = [1] * len(rows)
    for _ in range(n):
        ways = [sum([ways[after] for _, after in row]) for row in rows]
    return ways[0]


def pin_road(forbidden):
    """Return the first road (seed, way round), or None if there is none."""
    check_list(forbidden)
    return first_road(forbidden)


def first_road(forbidden):
    """Return the first road of a list, which is not checked, or None if there is none."""
    rows = rows_of(forbidden)
    # The states are numbered in the sequence of the first words that lead to them.
    for state in range(len(rows)):
        again = first_word(rows, state, state)
        if again is not None:
            return first_word(rows, 0, state), again
    return None


def first_word(rows, start, goal):
    """Return the first word of one letter or more, by length and then as tuples, that leads to a state, or None."""
    known = {}
    waiting = [((), start)]
    while waiting:
        coming = []
        for word, state in waiting:
            for letter, after in rows[state]:
                if after not in known:
                    known[after] = True
                    coming.append((word + (letter,), after))
                    if after == goal:
                        return word + (letter,)
        waiting = coming
    return None

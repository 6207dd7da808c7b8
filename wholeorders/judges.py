"""Judges of papers and of machines of pin words: they believe neither, and go on rows of their own."""

from wholeorders.blocks import is_simple, is_simple_order
from wholeorders.families import is_kind, member_of
from wholeorders.integers import is_integer
from wholeorders.lists import check_list, does_let, let_ones
from wholeorders.patterns import inverse, turned, with_one_at
from wholeorders.spots import Spots, may_stand_behind


def judge_fate(forbidden, paper):
    """Tell whether something is a paper of a list, and right."""
    check_list(forbidden)
    if not isinstance(paper, tuple):
        return False
    if len(paper) == 2:
        return paper[0] == "family" and judge_kind(forbidden, paper[1])
    if len(paper) != 3:
        return False
    if paper[0] == "few":
        return judge_few(forbidden, paper[1], paper[2])
    return paper[0] == "pins" and judge_road(forbidden, paper[1], paper[2])


def judge_kind(forbidden, kind):
    """Tell whether something is a kind of which all members are let."""
    longest = max([len(pattern) for pattern in forbidden], default=1)
    return is_kind(kind) and does_let(forbidden, member_of(kind, longest + 1))


def judge_few(forbidden, orders, n):
    """Tell whether the orders are all simple ones that are let, in their sequence, and n the least number behind."""
    if not isinstance(orders, tuple) or not is_integer(n):
        return False
    for order in orders:
        if not is_simple_order(order):
            return False
    size = 4
    told = 0
    ahead = simple_row(forbidden, [], size)
    while orders[told:told + len(ahead)] == tuple(ahead):
        told += len(ahead)
        behind = simple_row(forbidden, ahead, size + 1)
        if not ahead and not behind:
            return told == len(orders) and size == n
        ahead = behind
        size += 1
    return False


def simple_row(forbidden, ahead, n):
    """Return the ascending list of the let simple orders of n things; those of one thing fewer stand in the row ahead.

    Each comes of one of these by one thing more, or is a lone one.
    """
    found = {}
    for order in lone_row(n):
        found[order] = True
    for order in ahead:
        for place in range(n):
            for number in range(1, n + 1):
                more = with_one_at(order, place, number)
                if more not in found and is_simple(more):
                    found[more] = True
    return sorted(let_ones(forbidden, found))


def lone_row(n):
    """Return the list of the lone simple orders of n things, from 4 on."""
    if n % 2 == 1:
        return []
    rising = tuple(range(2, n + 1, 2)) + tuple(range(1, n, 2))
    falling = turned(rising)
    return [rising, falling, inverse(rising), inverse(falling)]


def judge_road(forbidden, seed, way):
    """Tell whether a seed and a way round, again and again, are pin words whose orders are let."""
    if not isinstance(seed, tuple) or not isinstance(way, tuple) or len(seed) == 0 or len(way) == 0:
        return False
    spots = Spots(forbidden)
    state = led_along(spots, spots.first_state(), seed)
    known = {}
    while state is not None and state not in known:
        known[state] = True
        state = led_along(spots, state, way)
    return state is not None


def led_along(spots, state, letters):
    """Return the state behind some letters, or None if they are no pin word there, or one that is not let."""
    for letter in letters:
        if state is None or not may_stand_behind(state[0], letter):
            return None
        state = spots.behind(state, letter)
    return state


def judge_pins(forbidden, rows):
    """Tell whether something is a machine, least or not, that spells just the pin words of a list."""
    check_list(forbidden)
    if not is_pin_machine(rows):
        return False
    spots = Spots(forbidden)
    known = {(0, spots.first_state()): True}
    waiting = list(known)
    while waiting:
        at, state = waiting.pop()
        steps = spots.let_steps(state)
        if [letter for letter, _ in rows[at]] != [letter for letter, _ in steps]:
            return False
        for step, told in zip(steps, rows[at]):
            pair = (told[1], step[1])
            if pair not in known:
                known[pair] = True
                waiting.append(pair)
    return True


def is_pin_machine(told):
    """Tell whether something is a tuple of one or more rows of (letter, state), each a state that there is."""
    if not isinstance(told, tuple) or len(told) == 0:
        return False
    for row in told:
        if not is_pin_row(row, len(told)):
            return False
    return True


def is_pin_row(told, many):
    """Tell whether something is an ascending tuple of (letter, state), of quadrants alone or of directions alone."""
    if not isinstance(told, tuple):
        return False
    for step in told:
        if not isinstance(step, tuple) or len(step) != 2 or not is_integer(step[1]) or not 0 <= step[1] < many:
            return False
    letters = [letter for letter, _ in told]
    for before in (None, 1):
        if all([may_stand_behind(before, letter) for letter in letters]):
            return all([letters[at - 1] < letters[at] for at in range(1, len(letters))])
    return False

"""The orders of so many things that a list with a machine lets, in the sequence of their whole words."""

from wholeorders.counts import ways_of_more, ways_of_none
from wholeorders.errors import InvalidNumber, InvalidPair, InvalidTape, NotLet
from wholeorders.integers import are_integers, check_number
from wholeorders.machines import check_stopping_list, machine_of
from wholeorders.patterns import check_order
from wholeorders.slots import led_form, whole_word


def nth(forbidden, n, i):
    """Return the i-th order of n things that is let, i from 0 on."""
    check_stopping_list(forbidden)
    check_number(n)
    check_number(i)
    ranking = ranking_of(forbidden, n)
    if i >= how_many_let(ranking, n):
        raise InvalidNumber(i)
    return order_at(ranking, n, i)


def place_of(forbidden, order):
    """Return the i of an order that is let, among those of as many things."""
    check_stopping_list(forbidden)
    check_order(order)
    return place_in(ranking_of(forbidden, len(order)), order)


def next_order(forbidden, order):
    """Return the order behind one that is let, of as many things, or None."""
    check_stopping_list(forbidden)
    check_order(order)
    ranking = ranking_of(forbidden, len(order))
    i = place_in(ranking, order) + 1
    return order_at(ranking, len(order), i) if i < how_many_let(ranking, len(order)) else None


def drawn(forbidden, n, tape):
    """Return (order, read): the order that is drawn from a tape, and how many bits were read, or None."""
    check_stopping_list(forbidden)
    check_number(n)
    check_tape(tape)
    ranking = ranking_of(forbidden, n)
    many = how_many_let(ranking, n)
    if many == 0:
        raise InvalidPair((n, 0))
    drawing = number_drawn(many, tape)
    if drawing is None:
        return None
    i, read = drawing
    return order_at(ranking, n, i), read


def check_tape(tape):
    """Raise InvalidTape for what is no tuple of 0 and 1."""
    if not are_integers(tape) or not all([bit == 0 or bit == 1 for bit in tape]):
        raise InvalidTape(tape)


def number_drawn(many, tape):
    """Return (number below many, how many bits were read), or None if the tape does not suffice."""
    size = (many - 1).bit_length()
    for start in range(0, len(tape) - size + 1, max(1, size)):
        number = 0
        for bit in tape[start:start + size]:
            number = 2 * number + bit
        if number < many:
            return number, start + size
    return None


def ranking_of(forbidden, n):
    """Return (rows, ways): of the machine, and how many words of 0 to n letters lead from each state to an end."""
    spelling = machine_of(forbidden)
    ways = [ways_of_none(spelling)]
    for _ in range(n):
        ways.append(ways_of_more(spelling, ways[-1]))
    return spelling[0], ways


def how_many_let(ranking, n):
    """Return how many orders of n things are let; () has no word, but is always let."""
    return ranking[1][n][0] if n > 0 else 1


def order_at(ranking, n, i):
    """Return the i-th order of n things; there must be one."""
    if n == 0:
        return ()
    rows, ways = ranking
    word = []
    state = 0
    for left in range(n - 1, -1, -1):
        letter, state, i = step_at(rows[state], ways[left], i)
        word.append(letter)
    return led_form(tuple(word))


def step_at(row, ways, i):
    """Return (letter, state, number left) of the step on which the i-th word lies."""
    at = 0
    while i >= ways[row[at][1]]:
        i -= ways[row[at][1]]
        at += 1
    letter, after = row[at]
    return letter, after, i


def place_in(ranking, order):
    """Return the place of an order; raise NotLet for one that is not let."""
    rows, ways = ranking
    place = 0
    state = 0
    word = whole_word(order)
    for at, letter in enumerate(word):
        going = ways[len(word) - 1 - at]
        place += sum([going[after] for other, after in rows[state] if other < letter])
        behind = [after for other, after in rows[state] if other == letter]
        if not behind:
            raise NotLet(order)
        state = behind[0]
    # From each state of the least machine a word leads to an end, and nothing stands behind a whole one: it is spelled.
    return place

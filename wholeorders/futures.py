"""What is still barred behind a form: from this alone hangs which words lead on from it to a let order.

A bar is (numbers, slots): an order of one or more things, and for each of them the slot that it would fall into,
from the left. It is barred that what comes into the slots shows these numbers in these slots: with things of the
form, below them, they would be a pattern of the list. A state is (number of slots, ascending tuple of the codes of
its bars): of bars that lie in one another only the smallest are kept. That whole patterns are barred in any slots
goes without saying, so no bar is made of it.
"""

from wholeorders.lists import least_of
from wholeorders.patterns import ranks_of
from wholeorders.slots import BOTH_SIDES, LEFT_SIDE, NO_SIDE, RIGHT_SIDE, letters_of

FIRST_STATE = (1, ())


class Futures:
    """The bars and states of a list, each worked out once."""

    def __init__(self, forbidden):
        self.patterns = least_of(forbidden)
        self.codes = {}
        self.bars = []
        self.inner = []
        self.moves = {}
        self.starts = {}
        self.live = {}

    def code_of(self, bar):
        """Return the code of a bar, a new one if it is new."""
        if bar in self.codes:
            return self.codes[bar]
        smaller = [self.code_of(part) for part in parts_of_bar(bar)]
        self.codes[bar] = len(self.bars)
        self.bars.append(bar)
        self.inner.append(smaller)
        return self.codes[bar]

    def moved(self, code, letter):
        """Return the codes of what is barred behind a letter by a bar of two things or more."""
        key = (code, letter)
        if key not in self.moves:
            self.moves[key] = [self.code_of(bar) for bar in bars_behind(self.bars[code], letter)]
        return self.moves[key]

    def started(self, many, letter):
        """Return the codes of the bars of which a letter puts the first thing, or None if it is all of a pattern."""
        key = (many, letter)
        if key not in self.starts:
            self.starts[key] = self.new_bars(many, letter)
        return self.starts[key]

    def new_bars(self, many, letter):
        """Work out what `started` tells."""
        found = []
        for pattern in self.patterns:
            if len(pattern) == 1:
                return None
            found.extend(bars_begun(pattern, many, letter))
        return [self.code_of(bar) for bar in found]

    def behind(self, state, letter):
        """Return the state behind a letter, or None if no let order comes of it."""
        many, codes = state
        begun = self.started(many, letter)
        if begun is None:
            return None
        barred = {code: True for code in begun}
        for code in codes:
            for other in self.moved(code, letter):
                barred[other] = True
        kept = []
        for code in sorted(barred):
            # Something must come into each slot: so nothing is let where one thing in a slot is barred.
            if len(self.bars[code][0]) == 1:
                return None
            if not any([part in barred for part in self.inner[code]]):
                kept.append(code)
        return slots_behind(many, letter), tuple(kept)

    def is_live(self, state):
        """Tell whether a let order comes of a state, each slot being filled by one number in some sequence."""
        if state not in self.live:
            self.live[state] = state[0] == 0 or self.can_fill_one(state)
        return self.live[state]

    def can_fill_one(self, state):
        """Tell whether a slot of a state can be filled by one number so that what is left is live."""
        for slot in range(1, state[0] + 1):
            after = self.behind(state, (slot, NO_SIDE))
            if after is not None and self.is_live(after):
                return True
        return False

    def live_behind(self, state, letter):
        """Return the state behind a letter, or None if it is not live."""
        after = self.behind(state, letter)
        return after if after is not None and self.is_live(after) else None

    def steps(self, state):
        """Return the ascending list of (letter, state behind it), of live states alone."""
        found = [(letter, self.live_behind(state, letter)) for letter in letters_of(state[0])]
        return [(letter, after) for letter, after in found if after is not None]


def slots_behind(many, letter):
    """Return how many slots there are behind a letter."""
    way = letter[1]
    if way == BOTH_SIDES:
        return many + 1
    return many - 1 if way == NO_SIDE else many


def sides_of(letter):
    """Return the slots to the left and to the right of the number that a letter puts, as numbered behind it, or 0."""
    slot, way = letter
    if way == BOTH_SIDES:
        return slot, slot + 1
    return (slot if way == LEFT_SIDE else 0), (slot if way == RIGHT_SIDE else 0)


def parts_of_bar(bar):
    """Return the list of the bars that lie in a bar, but itself."""
    numbers, cells = bar
    found = {}
    for code in range(1, (1 << len(numbers)) - 1):
        chosen = [at for at in range(len(numbers)) if code >> at & 1]
        found[(ranks_of([numbers[at] for at in chosen]), tuple([cells[at] for at in chosen]))] = True
    return list(found)


def bars_behind(bar, letter):
    """Return the list of what a bar of two things or more bars behind a letter."""
    numbers, cells = bar
    slot = letter[0]
    left, right = sides_of(letter)
    start = len([cell for cell in cells if cell < slot])
    end = len([cell for cell in cells if cell <= slot])
    by = slots_behind(slot, letter) - slot
    behind = tuple([cell + by for cell in cells[end:]])
    found = []
    for cut in range(start, end + 1):
        if (cut == start or left) and (cut == end or right):
            found.append((numbers, cells[:start] + (left,) * (cut - start) + (right,) * (end - cut) + behind))
    at = numbers.index(1)
    if cells[at] == slot and (at == start or left) and (at + 1 == end or right):
        fewer = cells[:start] + (left,) * (at - start) + (right,) * (end - at - 1) + behind
        found.append((without_least(numbers), fewer))
    return found


def without_least(numbers):
    """Return what is left of an order without its least number."""
    return tuple([number - 1 for number in numbers if number != 1])


def bars_begun(pattern, many, letter):
    """Return the list of the bars that are left of a pattern whose least number a letter puts."""
    left, right = sides_of(letter)
    slot = letter[0]
    last = slot if left else slot - 1
    at = pattern.index(1)
    found = []
    for ahead in risings(1, last, at):
        for rest in risings(last + 1, slots_behind(many, letter), len(pattern) - at - 1):
            found.append((without_least(pattern), ahead + rest))
    return found


def risings(low, high, many):
    """Return all tuples of so many integers from low to high, of which none is less than the one ahead."""
    found = [()]
    for _ in range(many):
        found = [row + (more,) for row in found for more in range(row[-1] if row else low, high + 1)]
    return found

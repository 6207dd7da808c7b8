"""Which things of the patterns of a list can stand on the pins of a word: from this hangs by which letters it goes on.

A pin is a thing of a pin word. A track is (index of a pattern, things, last): by some choice of pins just these things
of the pattern, as bits, stand on pins of the word, as the pattern has them; last is the one on the last pin, or NONE.
A state is (last letter, ascending tuple of tracks), all tracks of a word from which some letters lead to the whole
pattern. The first letter is a quadrant, the last letter of the empty word START.
"""

from wholeorders.automata import least_of_machine, states_met
from wholeorders.lists import least_of

NONE = -1
START = 0
DIRECTIONS = ("d", "l", "r", "u")
UP_DOWN = ("d", "u")
COMING = {
    0: (1, 2, 3, 4),
    1: ("d", "l", "r", "u"), 2: ("d", "l", "r", "u"), 3: ("d", "l", "r", "u"), 4: ("d", "l", "r", "u"),
    "d": ("l", "r"), "u": ("l", "r"), "l": ("d", "u"), "r": ("d", "u")}
CORNERS = {1: ("r", "u"), 2: ("l", "u"), 3: ("l", "d"), 4: ("r", "d")}


def side_of(before, letter):
    """Return on which side of all the last pin stands, across the direction in which a letter goes."""
    if before not in CORNERS:
        return before
    across, upward = CORNERS[before]
    return across if letter in UP_DOWN else upward


class Placings:
    """How the things of one pattern can be put on pins, one after the other."""

    def __init__(self, pattern):
        many = len(pattern)
        self.whole = (1 << many) - 1
        self.beyond = {
            "l": [bits_of([other > thing for other in range(many)]) for thing in range(many)],
            "r": [bits_of([other < thing for other in range(many)]) for thing in range(many)],
            "d": [bits_of([other > number for other in pattern]) for number in pattern],
            "u": [bits_of([other < number for other in pattern]) for number in pattern]}
        self.endings = {}

    def placed(self, before, things, last, letter):
        """Return the list of (things, last) of those tracks behind a letter on whose last pin a thing stands."""
        found = []
        for thing in range(len(self.beyond["l"])):
            if not things >> thing & 1 and self.fits(before, things, last, letter, thing):
                grown = things | 1 << thing
                if self.can_end(letter, grown, thing):
                    found.append((grown, thing))
        return found

    def fits(self, before, things, last, letter, thing):
        """Tell whether a thing can stand on the pin of a letter, as the pattern has it."""
        if before == START:
            return True
        inside = self.beyond[side_of(before, letter)][thing]
        held = things
        if last != NONE:
            # The pin of a letter stands between the last pin and all others.
            if inside >> last & 1:
                return False
            held = things - (1 << last)
        return things & ~self.beyond[letter][thing] == 0 and held & ~inside == 0

    def can_end(self, before, things, last):
        """Tell whether some letters lead from a track to the whole pattern."""
        key = (before, things, last)
        if key not in self.endings:
            self.endings[key] = things == self.whole or self.can_go_on(before, things, last)
        return self.endings[key]

    def can_go_on(self, before, things, last):
        """Tell whether some letters lead from a track on which things are missing to the whole pattern."""
        # From a pin that holds no thing others that hold none lead to any direction.
        for ahead, pin in [(before, last)] + [(letter, NONE) for letter in DIRECTIONS]:
            for letter in COMING[ahead]:
                if self.placed(ahead, things, pin, letter):
                    return True
        return False


def bits_of(truths):
    """Return the integer whose bits are as told, the lowest one first."""
    return sum([1 << at for at, truth in enumerate(truths) if truth])


class Tracks:
    """The states of a list, each step worked out once."""

    def __init__(self, forbidden):
        self.patterns = [Placings(pattern) for pattern in least_of(forbidden)]
        self.moves = {}

    def first_state(self):
        """Return the state of the empty word."""
        return START, tuple([(index, 0, NONE) for index in range(len(self.patterns))])

    def moved(self, before, track, letter):
        """Return the list of the tracks behind a letter, without those that lead to no whole pattern."""
        key = (before, track, letter)
        if key not in self.moves:
            index, things, last = track
            pattern = self.patterns[index]
            found = [(index, grown, thing) for grown, thing in pattern.placed(before, things, last, letter)]
            if pattern.can_end(letter, things, NONE):
                found.append((index, things, NONE))
            self.moves[key] = found
        return self.moves[key]

    def behind(self, state, letter):
        """Return the state behind a letter, or None if the word shows a whole pattern."""
        before, tracks = state
        found = {}
        for track in tracks:
            for index, things, last in self.moved(before, track, letter):
                if things == self.patterns[index].whole:
                    return None
                found[(index, things, last)] = True
        return letter, tuple(sorted(found))

    def steps(self, state):
        """Return the ascending list of (letter, state behind it)."""
        found = [(letter, self.behind(state, letter)) for letter in COMING[state[0]]]
        return [(letter, after) for letter, after in found if after is not None]


def rows_of(forbidden):
    """Return the rows of the least machine of the pin words of a list, which is not checked."""
    tracks = Tracks(forbidden)
    rows = states_met(tracks, tracks.first_state())[1]
    # All that a pin word begins with is a word of the list too: so at each state a word may end.
    return least_of_machine(rows, list(range(len(rows))))[0]

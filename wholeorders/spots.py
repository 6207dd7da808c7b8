"""Which things of the patterns of a list can be placed on the pins of a word; for judges, who look at it anew.

A spot is (index of a pattern, things, last): the ascending tuple of the places in the pattern of the things that are
placed, and which of them is the last pin, or NO_THING. A state is (last letter, ascending tuple of spots); of the
empty word the last letter is None. Spots of which the whole pattern can never come are left out.
"""

from wholeorders.integers import is_integer

AROUND = ("d", "l", "r", "u")
NO_THING = -1


def letters_behind(before):
    """Return the tuple of the letters that can stand behind a letter, or behind None."""
    if before is None:
        return 1, 2, 3, 4
    if before == "u" or before == "d":
        return "l", "r"
    if before == "l" or before == "r":
        return "d", "u"
    return AROUND


def may_stand_behind(before, letter):
    """Tell whether something is a letter that can stand behind a letter, or behind None."""
    return (is_integer(letter) or isinstance(letter, str)) and letter in letters_behind(before)


def outer_side(before, letter):
    """Return on which side of all others the last pin stands, across the direction of a letter."""
    if isinstance(before, str):
        return before
    if letter == "u" or letter == "d":
        return "r" if before == 1 or before == 4 else "l"
    return "u" if before == 1 or before == 2 else "d"


def is_farther(pattern, thing, other, way):
    """Tell whether a thing of a pattern stands farther than another one in a direction."""
    if way == "l":
        return thing < other
    if way == "r":
        return thing > other
    if way == "d":
        return pattern[thing] < pattern[other]
    return pattern[thing] > pattern[other]


def stands_so(pattern, thing, spot, before, letter):
    """Tell whether a thing can be the pin of a letter: farther than all, across it inside of the last pin alone."""
    if before is None:
        return True
    things, last = spot
    side = outer_side(before, letter)
    for other in things:
        if not is_farther(pattern, thing, other, letter):
            return False
        if is_farther(pattern, thing, other, side) == (other == last):
            return False
    return True


class Spots:
    """The spots of the patterns of a list."""

    def __init__(self, forbidden):
        self.patterns = forbidden
        self.hopes = {}
        self.moves = {}

    def first_state(self):
        """Return the state of the empty word."""
        return None, tuple([(index, (), NO_THING) for index in range(len(self.patterns))])

    def grown(self, spot, before, letter):
        """Return the list of the spots behind a letter of which one more thing is the pin."""
        index, things, last = spot
        pattern = self.patterns[index]
        found = []
        for thing in range(len(pattern)):
            if thing not in things and stands_so(pattern, thing, (things, last), before, letter):
                found.append((index, tuple(sorted(things + (thing,))), thing))
        return found

    def is_whole(self, spot):
        """Tell whether all things of a pattern are placed."""
        return len(spot[1]) == len(self.patterns[spot[0]])

    def is_hopeful(self, spot, before):
        """Tell whether some letters lead from a spot to the whole pattern."""
        key = (spot, before)
        if key not in self.hopes:
            self.hopes[key] = self.is_whole(spot) or self.grows_whole(spot, before)
        return self.hopes[key]

    def grows_whole(self, spot, before):
        """Tell whether by a next letter, or behind letters that place none, a spot grows to one that is hopeful."""
        index, things, _ = spot
        bare = (index, things, NO_THING)
        ways = [(spot, before, letter) for letter in letters_behind(before)]
        ways.extend([(bare, ahead, letter) for ahead in AROUND for letter in letters_behind(ahead)])
        for start, ahead, letter in ways:
            for more in self.grown(start, ahead, letter):
                if self.is_hopeful(more, letter):
                    return True
        return False

    def moved(self, spot, before, letter):
        """Return the list of the hopeful spots behind a letter."""
        key = (spot, before, letter)
        if key not in self.moves:
            found = self.grown(spot, before, letter) + [(spot[0], spot[1], NO_THING)]
            self.moves[key] = [more for more in found if self.is_hopeful(more, letter)]
        return self.moves[key]

    def behind(self, state, letter):
        """Return the state behind a letter, or None if a whole pattern comes of it."""
        before, spots = state
        found = {}
        for spot in spots:
            for more in self.moved(spot, before, letter):
                if self.is_whole(more):
                    return None
                found[more] = True
        return letter, tuple(sorted(found))

    def let_steps(self, state):
        """Return the ascending list of (letter, state behind it) by which a pin word stays let."""
        found = [(letter, self.behind(state, letter)) for letter in letters_behind(state[0])]
        return [(letter, after) for letter, after in found if after is not None]

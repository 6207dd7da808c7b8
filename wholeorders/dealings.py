"""How the things of a hooked pattern are dealt out, in stretches, to the children of a node.

A state between two children is (done, begun): done the pieces that the children ahead have together, begun a
(start, left, end, heights) for each way in which the things from start to end - 1 are dealt to some of them while more
are to follow. The heights tell, for each child behind, how many of these things it stands above.
"""


class Dealing:
    """The dealing of one hooked pattern to the children of one node."""

    def __init__(self, hooked, node, is_lean, is_barred):
        self.pattern, self.bonds = hooked
        self.node = node
        self.is_barred = is_barred
        size = len(self.pattern)
        # A lean one goes on those pieces alone of which the whole pattern, with its bonds, may come.
        self.lefts = [(self.tie(at - 1),) if is_lean else (0, 1) for at in range(size + 1)]
        self.rights = self.lefts

    def tie(self, bond):
        """Return 1 for a bond that is to be kept, else 0."""
        return 1 if bond in self.bonds else 0

    def first(self):
        """Return the state ahead of all children."""
        return (), ()

    def kept(self, at, pieces):
        """Return those pieces of a child on which anything hangs."""
        return tuple([piece for piece in pieces if self.matters(at, piece)])

    def matters(self, at, piece):
        """Tell whether anything hangs on whether a child has a piece."""
        start, end, left, right = piece
        is_last = at == len(self.node) - 1
        opens = left in self.lefts[start] and (left == 0 or at == 0)
        goes_on = at > 0 and start > 0 and left == self.tie(start - 1)
        closes = right in self.rights[end] and (right == 0 or is_last)
        leads_on = not is_last and end < len(self.pattern) and right == self.tie(end - 1)
        return (opens or goes_on) and (closes or leads_on)

    def led_on(self, at, state, pieces):
        """Return the state behind one more child with its pieces, or None if a barred pattern is whole."""
        has = {piece: True for piece in pieces}
        done = {piece: True for piece in state[0]}
        begun = {}
        for thread in state[1]:
            start, left, end, heights = thread
            self.deal(at, thread, has, done, begun)
            if not self.tie(end - 1):
                self.begin_thread(begun, (start, left, end, heights[1:]))
        for start in range(len(self.pattern)):
            for left in self.lefts[start]:
                if left == 0 or at == 0:
                    self.deal(at, (start, left, start, (0,) * (len(self.node) - at)), has, done, begun)
        if self.is_barred and self.is_whole(done):
            return None
        return tuple(sorted(done)), tuple(sorted(begun)) if at + 1 < len(self.node) else ()

    def deal(self, at, thread, has, done, begun):
        """Add to what is done and begun how a thread goes on if its next things are dealt to a child."""
        start, left, middle, heights = thread
        is_last = at == len(self.node) - 1
        side = left if middle == start else self.tie(middle - 1)
        for end in range(middle + 1, len(self.pattern) + 1):
            if self.height_of(start, middle, end - 1) != heights[0]:
                return
            for right in self.rights[end]:
                if (right == 0 or is_last) and (middle, end, side, right) in has:
                    done[(start, end, left, right)] = True
            if end < len(self.pattern) and (middle, end, side, self.tie(end - 1)) in has:
                self.begin_thread(begun, (start, left, end, self.raised(at, heights, end - middle)))

    def begin_thread(self, begun, thread):
        """Add a thread to those that are begun, if its next thing can be dealt to some child behind."""
        start, _, end, heights = thread
        fitting = heights[:1] if self.tie(end - 1) else heights
        if self.height_of(start, end, end) in fitting:
            begun[thread] = True

    def height_of(self, start, middle, thing):
        """Return how many of the things from start to middle - 1 another thing stands above."""
        return len([entry for entry in self.pattern[start:middle] if entry < self.pattern[thing]])

    def raised(self, at, heights, many):
        """Return the heights of the children behind, so many more things being dealt to the child ahead of them."""
        behind = self.node[at + 1:]
        return tuple([high + (many if number > self.node[at] else 0) for high, number in zip(heights[1:], behind)])

    def is_whole(self, done):
        """Tell whether the whole pattern is among what is done."""
        for start, end, _, _ in done:
            if start == 0 and end == len(self.pattern):
                return True
        return False

    def together(self, state):
        """Return the pieces that all children have together."""
        return state[0]

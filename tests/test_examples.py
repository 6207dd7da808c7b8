"""The examples of the document, as they stand there; what they take from one another is imported ahead of them."""

import doctest
import unittest

AHEAD = """
>>> from wholeorders.blocks import from_shape, shape
"""

PATTERNS = """
>>> from wholeorders.patterns import how_many, inverse, mirrored, pattern_of, places, shows, turned
>>> order = (2, 4, 1, 3)
>>> [shows(order, (2, 1, 3)), shows(order, (3, 2, 1)), places(order, (1, 3, 2)), how_many(order, (1, 2))]
[True, False, [(0, 1, 3)], 3]
>>> [turned(order), mirrored(order), inverse(order), pattern_of((5, -2, 9))]
[(3, 1, 4, 2), (3, 1, 4, 2), (3, 1, 4, 2), (2, 1, 3)]
"""

BLOCKS = """
>>> from wholeorders.blocks import blocks, is_simple, put_together, skew_parts, summed, tree
>>> [is_simple(order), summed((2, 1), (1,)), skew_parts((3, 4, 2, 1)), put_together(order, ((1,), (1, 2), (1,), (1,)))]
[True, (2, 1, 3), ((1, 2), (1,), (1,)), (2, 4, 5, 1, 3)]
>>> [tree((2, 1)), blocks((2, 1, 3))]
[('skew', (('one',), ('one',))), [(0, 1), (0, 2), (0, 3), (1, 2), (2, 3)]]
"""

SHAPES = """
>>> [shape((1,)), shape((2, 1, 3)), from_shape(("skew", ("one",), ("sum", ("one",), ("one",))))]
[('one',), ('sum', ('skew', ('one',), ('one',)), ('one',)), (3, 1, 2)]
"""

LISTS = """
>>> from wholeorders.lists import is_finite, is_summed, joined, least, lets, lies_within, parting
>>> [least(((2, 3, 1), (1, 3, 4, 2), (2, 3, 1))), lets(((2, 3, 1),), (3, 1, 2)), lies_within(((1, 2),), ((2, 3, 1),))]
[((2, 3, 1),), True, True]
>>> [parting(((1, 2),), ((2, 1),)), joined(((1, 2),), ((2, 1),)), is_finite(((1, 2, 3), (2, 1))), is_summed(((2, 1),))]
[(1, 2), ((1, 3, 2), (2, 1, 3), (2, 3, 1), (3, 1, 2)), True, True]
"""

SLOTS = """
>>> from wholeorders.slots import filling, is_open, led, letters, order_of, put, word_of
>>> [put((0,), (1, 0)), word_of((2, 1, 3)), order_of(((1, 2), (1, 1), (1, 3))), led(((1, 0), (2, 3)))]
[(0, 1, 0), ((1, 0), (1, 3), (1, 3)), (2, 3, 1), (0, 1, 2)]
>>> [is_open(((2, 3, 1),), (0, 1, 0)), filling(((1, 2), ), (0, 1)), filling(((1, 2),), (1, 0))]
[True, (2, 1), None]
"""

ALTERNATIONS = """
>>> from wholeorders.alternations import alternation, endless, most_slots, stopped
>>> [alternation((1, -1), 3), stopped(((2, 3, 1),)), endless(((2, 3, 1),)), most_slots(((2, 3, 1), (1, 3, 2)))]
[(1, 6, 2, 5, 3, 4), ((2, 3, 1), (2, 3, 1), None, (2, 3, 1)), (1, -1), 2]
"""

MACHINES = """
>>> from wholeorders.machines import machine, spells, words
>>> rising = machine(((2, 1),))
>>> [rising, spells(rising, ((1, 1), (1, 3))), words(rising, 3)]
[(((((1, 1), 0), ((1, 3), 1)), ()), (1,)), True, [((1, 1), (1, 1), (1, 3))]]
"""

COUNTS = """
>>> from wholeorders.counts import count, counts, degree, rule
>>> two = ((2, 3, 1), (3, 1, 2))
>>> [counts(two, 5), count(two, 60) == 2 ** 59, rule(two), degree(two), degree(((2, 1),))]
[[1, 1, 2, 4, 8, 16], True, ((1, 1), ((2, 1), (0, 1))), None, 0]
"""

RATES = """
>>> from wholeorders.rates import faster, rate
>>> [rate(two), rate(((2, 1),)), faster(two, ((2, 1),))]
[((1, -2, 0), (2, 1), (2, 1)), ((1, -1), (1, 1), (1, 1)), 1]
"""

ALL = (AHEAD, PATTERNS, BLOCKS, SHAPES, LISTS, SLOTS, ALTERNATIONS, MACHINES, COUNTS, RATES)


class ExamplesTest(unittest.TestCase):
    def test_all_in_the_sequence_of_the_document(self):
        told = doctest.DocTestParser().get_doctest("\n".join(ALL), {}, "examples", None, 0)
        self.assertEqual(len(told.examples), 25)
        faults = []
        doctest.DocTestRunner(verbose=False).run(told, out=faults.append)
        self.assertEqual(faults, [])


if __name__ == "__main__":
    unittest.main()

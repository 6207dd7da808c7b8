"""The examples of the document, as they stand there; what they take from one another is imported ahead of them."""

import doctest
import unittest

AHEAD = """
>>> from wholeorders.blocks import from_shape, shape
"""

PATTERNS = """
>>> from wholeorders.patterns import how_many, inverse, mirrored, pattern_of, places, shows, turned
>>> order = (2, 4, 1, 3)
>>> [shows(order, (2, 1, 3)), shows(order, (3, 2, 1)), places(order, (1, 3, 2)), how_many(order, (1, 2))]
[True, False, [(0, 1, 3)], 3]
>>> [turned(order), mirrored(order), inverse(order), pattern_of((5, -2, 9))]
[(3, 1, 4, 2), (3, 1, 4, 2), (3, 1, 4, 2), (2, 1, 3)]
"""

BLOCKS = """
>>> from wholeorders.blocks import blocks, is_simple, put_together, skew_parts, summed, tree
>>> [is_simple(order), summed((2, 1), (1,)), skew_parts((3, 4, 2, 1)), put_together(order, ((1,), (1, 2), (1,), (1,)))]
[True, (2, 1, 3), ((1, 2), (1,), (1,)), (2, 4, 5, 1, 3)]
>>> [tree((2, 1)), blocks((2, 1, 3))]
[('skew', (('one',), ('one',))), [(0, 1), (0, 2), (0, 3), (1, 2), (2, 3)]]
"""

SHAPES = """
>>> [shape((1,)), shape((2, 1, 3)), from_shape(("skew", ("one",), ("sum", ("one",), ("one",))))]
[('one',), ('sum', ('skew', ('one',), ('one',)), ('one',)), (3, 1, 2)]
"""

LISTS = """
>>> from wholeorders.lists import is_finite, is_summed, joined, least, lets, lies_within, parting
>>> [least(((2, 3, 1), (1, 3, 4, 2), (2, 3, 1))), lets(((2, 3, 1),), (3, 1, 2)), lies_within(((1, 2),), ((2, 3, 1),))]
[((2, 3, 1),), True, True]
>>> [parting(((1, 2),), ((2, 1),)), joined(((1, 2),), ((2, 1),)), is_finite(((1, 2, 3), (2, 1))), is_summed(((2, 1),))]
[(1, 2), ((1, 3, 2), (2, 1, 3), (2, 3, 1), (3, 1, 2)), True, True]
"""

SLOTS = """
>>> from wholeorders.slots import filling, is_open, led, letters, order_of, put, word_of
>>> [put((0,), (1, 0)), word_of((2, 1, 3)), order_of(((1, 2), (1, 1), (1, 3))), led(((1, 0), (2, 3)))]
[(0, 1, 0), ((1, 0), (1, 3), (1, 3)), (2, 3, 1), (0, 1, 2)]
>>> [is_open(((2, 3, 1),), (0, 1, 0)), filling(((1, 2), ), (0, 1)), filling(((1, 2),), (1, 0))]
[True, (2, 1), None]
"""

ALTERNATIONS = """
>>> from wholeorders.alternations import alternation, endless, most_slots, stopped
>>> [alternation((1, -1), 3), stopped(((2, 3, 1),)), endless(((2, 3, 1),)), most_slots(((2, 3, 1), (1, 3, 2)))]
[(1, 6, 2, 5, 3, 4), ((2, 3, 1), (2, 3, 1), None, (2, 3, 1)), (1, -1), 2]
"""

MACHINES = """
>>> from wholeorders.machines import machine, spells, words
>>> rising = machine(((2, 1),))
>>> [rising, spells(rising, ((1, 1), (1, 3))), words(rising, 3)]
[(((((1, 1), 0), ((1, 3), 1)), ()), (1,)), True, [((1, 1), (1, 1), (1, 3))]]
"""

COUNTS = """
>>> from wholeorders.counts import count, counts, degree, rule
>>> two = ((2, 3, 1), (3, 1, 2))
>>> [counts(two, 5), count(two, 60) == 2 ** 59, rule(two), degree(two), degree(((2, 1),))]
[[1, 1, 2, 4, 8, 16], True, ((1, 1), ((2, 1), (0, 1))), None, 0]
"""

RATES = """
>>> from wholeorders.rates import faster, rate
>>> [rate(two), rate(((2, 1),)), faster(two, ((2, 1),))]
[((1, -2, 0), (2, 1), (2, 1)), ((1, -1), (1, 1), (1, 1)), 1]
"""

RANKS = """
>>> from wholeorders.ranks import drawn, next_order, nth, place_of
>>> [[nth(two, 3, i) for i in range(4)], place_of(two, (2, 1, 3)), next_order(two, (2, 1, 3)), drawn(two, 3, (1, 1, 0)), drawn(two, 3, (1,))]
[[(2, 1, 3), (1, 2, 3), (1, 3, 2), (3, 2, 1)], 0, (1, 2, 3), ((3, 2, 1), 2), None]
"""

SORTERS = """
>>> from wholeorders.sorters import least_unsorted, made, passes, sorts
>>> [made('stack', (2, 3, 1)), made('bubble', (3, 1, 2)), sorts('popper', (3, 2, 1)), passes('bubble', (2, 3, 1)), least_unsorted('queues', 4)]
[(2, 1, 3), (1, 2, 3), True, 2, [(3, 2, 1)]]
"""

SAYINGS = """
>>> from wholeorders.sayings import is_meant, lot_of, meaning
>>> [meaning(('both', ('sorted', 'stack'), ('turned', ('list', ((2, 1, 3),))))), lot_of(('either', ('list', ((1, 2),)), ('list', ((2, 1),))), 3)]
[((2, 3, 1), (3, 1, 2)), [(1, 2, 3), (3, 2, 1)]]
"""

STEPS = """
>>> from wholeorders.steps import chain, is_lone, one_more, simple_let, simple_orders, smaller_simple, without
>>> [without((2, 4, 1, 3), 1), one_more((1,)), simple_orders(4), [len(simple_orders(n)) for n in range(8)]]
[(2, 1, 3), [(1, 2), (2, 1)], [(2, 4, 1, 3), (3, 1, 4, 2)], [0, 0, 0, 0, 2, 6, 46, 338]]
>>> [smaller_simple((2, 5, 3, 1, 4)), is_lone((2, 4, 6, 1, 3, 5)), chain((2, 7, 3, 6, 4, 1, 5))[-2:], simple_let(((1, 2, 3), (4, 3, 2, 1)), 5)]
[[(2, 4, 1, 3)], True, ((2, 6, 3, 5, 1, 4), (2, 7, 3, 6, 4, 1, 5)), [(3, 5, 1, 4, 2), (4, 2, 5, 1, 3)]]
"""

PINS = """
>>> from wholeorders.pins import left_out, pin_count, pin_lets, pin_machine, pin_order, pin_places, pin_road, pin_words
>>> [pin_order((1, "u", "r", "d", "l")), pin_places((1, "u", "r", "d", "l")), pin_words((1, 2)), left_out((1, "d", "l", "d", "l"))]
[(2, 5, 3, 1, 4), (2, 1, 4, 3, 0), [(1, 'd'), (1, 'l'), (2, 'l'), (2, 'u'), (3, 'r'), (3, 'u'), (4, 'd'), (4, 'r')], (0,)]
>>> stairs = ((3, 2, 1), (2, 3, 4, 1), (3, 4, 1, 2), (4, 1, 2, 3))
>>> [pin_machine(((1, 2),))[:3], [pin_count(stairs, n) for n in range(7)], pin_road(stairs), pin_road(((1, 2),))]
[(((1, 1), (2, 2), (3, 3), (4, 4)), (('r', 5), ('u', 5)), (('d', 5), ('r', 5))), [1, 4, 16, 32, 48, 32, 32], ((1, 'r', 'd'), ('l', 'd')), None]
"""

FAMILIES = """
>>> from wholeorders.families import endless_kind, kinds, member, stops_kind
>>> [kinds()[:2], member(("parallel", 0), 3), member(("open", 0), 3), member(("between", 0), 3)]
[[('between', 0), ('between', 1)], (2, 4, 6, 1, 3, 5), (4, 1, 7, 2, 6, 3, 5), (2, 7, 3, 6, 4, 1, 5)]
>>> [endless_kind(((2, 4, 1, 3),)), endless_kind(((3, 2, 1),)), endless_kind(stairs), stops_kind(((3, 2, 1),), ("parallel", 0))]
[('between', 1), ('parallel', 0), None, None]
"""

ROADS = """
>>> from wholeorders.roads import fate, grown, longest, simples
>>> [fate(((2, 3, 1),)), fate(((3, 2, 1),)), fate(stairs), fate(stairs + ((2, 4, 1, 5, 3),))]
[('few', (), 4), ('family', ('parallel', 0)), ('pins', (1, 'r', 'd'), ('l', 'd')), ('few', ((2, 4, 1, 3), (3, 1, 4, 2), (3, 1, 5, 2, 4)), 6)]
>>> [longest(((1, 2, 3), (4, 3, 2, 1))), len(simples(((1, 2, 3), (4, 3, 2, 1)))), grown(fate(stairs), 2)]
[6, 11, ((3, 1, 5, 2, 4), (3, 1, 5, 2, 7, 4, 6))]
"""

JUDGES = """
>>> from wholeorders.judges import judge_fate, judge_pins
>>> [judge_fate(((3, 2, 1),), ("family", ("parallel", 4))), judge_fate(((3, 2, 1),), ("pins", (1, "r"), ("u", "r"))), judge_pins(((1, 2),), pin_machine(((1, 2),)))]
[True, True, True]
"""

CLOSED = """
>>> from wholeorders.closed import closure, is_closed, opened
>>> [is_closed(((2, 4, 1, 3),)), is_closed(((2, 1),)), is_closed(((2, 3, 1),)), closure(((2, 3, 1),)), closure(((2, 1),)), opened(((2, 3, 1),))]
[True, True, False, ((2, 4, 1, 3), (3, 1, 4, 2)), ((2, 1),), ((2, 1), ((1, 2), (1,)))]
"""

FACTS = """
>>> from wholeorders.facts import is_true, measure, meeting_places, meets
>>> [meets((1, 3, 2), ((2, 1), (0,))), meets((3, 1, 2), ((2, 1), (1,))), meeting_places((3, 1, 2), ((2, 1), ()))]
[True, True, [(0, 1), (0, 2)]]
>>> [measure((3, 1, 2), name) for name in ("things", "turns", "drops", "tops", "parts")]
[3, 2, 1, 1, 1]
>>> is_true(("both", ("rest", "turns", 2, 0), ("not", ("shows", (1, 2), (-1,)))), (3, 1, 2))
True
"""

TRAITS = """
>>> from wholeorders.traits import put_traits, traits
>>> even = ("rest", "things", 2, 0)
>>> traits(((2, 1),), even, (1,))
(0, ((0, 0, 1, 0, 0), (0, 0, 1, 0, 1), (0, 0, 1, 1, 0), (0, 0, 1, 1, 1), (0, 1, 2, 0, 0), (0, 1, 2, 0, 1), (0, 1, 2, 1, 0), (0, 1, 2, 1, 1)), (('things', 1, 0),))
>>> put_traits(((2, 1),), even, (1, 2), (traits(((2, 1),), even, (1,)), traits(((2, 1),), even, (1,))))
(1, ((0, 0, 1, 0, 0), (0, 0, 1, 0, 1), (0, 0, 1, 1, 0), (0, 1, 2, 0, 0), (0, 1, 2, 0, 1), (0, 1, 2, 1, 0)), (('things', 0, 0),))
"""

TABLES = """
>>> from wholeorders.tables import decided, implied, table
>>> [decided(((2, 3, 1),), ("not", ("shows", (3, 1, 2), ()))), decided(((2, 1),), ("least", "tops", 1))[0], len(table(((2, 1),), even))]
[('breaks', (3, 1, 2)), 'all', 3]
>>> implied(((2, 1),), even, ("least", "tops", 2))[0]
'all'
"""

JUDGES2 = """
>>> from wholeorders.judges2 import judge_fact
>>> [judge_fact(((2, 3, 1),), ("not", ("shows", (3, 1, 2), ())), ("breaks", (3, 1, 2))), judge_fact(((2, 1),), ("least", "tops", 1), ("breaks", (1,)))]
[True, False]
"""

TREECOUNTS = """
>>> from wholeorders.treecounts import shape_drawn, shape_next, shape_nth, shape_place, tree_counts
>>> [tree_counts(((2, 3, 1),), None, 6), tree_counts(((2, 3, 1),), ("least", "parts", 2), 4)]
[[1, 1, 2, 5, 14, 42, 132], [0, 0, 1, 3, 9]]
>>> [shape_nth(((2, 3, 1),), None, 3, i) for i in range(5)]
[(1, 2, 3), (1, 3, 2), (2, 1, 3), (3, 1, 2), (3, 2, 1)]
>>> [shape_place(((2, 3, 1),), None, (3, 2, 1)), shape_next(((2, 3, 1),), None, (2, 1, 3)), shape_drawn(((2, 3, 1),), None, 3, (1, 1, 0, 0, 1, 0))]
[4, (3, 1, 2), ((2, 1, 3), 6)]
"""

SYSTEMS = """
>>> from wholeorders.systems import is_founded, solved, system
>>> [solved((((1, -2, -1), (1, 0, 0)),), 6), is_founded((((1, -1, 0),),)), solved(system(((2, 1),)), 5)]
[[0, 1, 1, 2, 5, 14, 42], False, [0, 1, 1, 1, 1, 1]]
"""

BRIDGES = """
>>> from wholeorders.bridges import both_counts, first_unlike, shape_of_word, word_of_shape
>>> [both_counts(((2, 3, 1), (3, 1, 2)), 5), first_unlike(((2, 3, 1), (3, 1, 2)), 2), first_unlike(((2, 3, 1), (3, 1, 2)), 3)]
[([1, 1, 2, 4, 8, 16], [1, 1, 2, 4, 8, 16]), None, 0]
>>> [word_of_shape(("skew", ("one",), ("one",))), shape_of_word(((1, 3),))]
[((1, 2), (1, 3)), ('one',)]
"""

TEXTS = """
>>> from wholeorders.texts import show_list, show_machine, show_saying, show_word
>>> [show_list(two), show_word(word_of((2, 1, 3))), show_machine(rising), show_saying(('turned', ('list', ((2, 1),))))]
['2 3 1, 3 1 2', '1m 1f 1f', '0 : 1l 0, 1f 1\\n1 end : -', '(turned (list [2 1]))']
"""

ALL = (
    AHEAD, PATTERNS, BLOCKS, SHAPES, LISTS, SLOTS, ALTERNATIONS, MACHINES, COUNTS, RATES, RANKS, SORTERS, SAYINGS, STEPS,
    PINS, FAMILIES, ROADS, JUDGES, CLOSED, FACTS, TRAITS, TABLES, JUDGES2, TREECOUNTS,
    SYSTEMS, BRIDGES, TEXTS)


class ExamplesTest(unittest.TestCase):
    def test_all_in_the_sequence_of_the_document(self):
        told = doctest.DocTestParser().get_doctest("\n".join(ALL), {}, "examples", None, 0)
        self.assertEqual(len(told.examples), 72)
        faults = []
        doctest.DocTestRunner(verbose=False).run(told, out=faults.append)
        self.assertEqual(faults, [])


if __name__ == "__main__":
    unittest.main()

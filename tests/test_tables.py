"""wholeorders.tables: facts decided for all orders that are let."""

import unittest

from tests.helpers import FAMILY_LISTS, FEW_LISTS, NO_LISTS, NO_NUMBERS, NOTHING, RISING, ROAD_LISTS, STAIRS, TWO, Case
from tests.helpers import slow_lets
from tests.slow_facts import EIGHT_LEAVES, EVEN, NO_FACTS, SIX_DEEP, slow_traits, slow_truth
from tests.slow_tables import (ELEVEN, NO_SIMPLE_LISTS, TABLE_FACTS, TABLE_LISTS, TABLE_PAIRS, let_to, slow_nodes,
                               slow_table)
from wholeorders.errors import InvalidFact, InvalidList, InvalidNumber, NotFew, TooMany
from wholeorders.roads import fate, simples
from wholeorders.tables import decided, examples, implied, table
from wholeorders.traits import traits

WIDE = tuple(range(1, 6)), (3, 2, 1)
MANY = ((1, 2, 3, 4, 5), (5, 4, 3, 2, 1))


class TableTest(Case):
    def test_just_the_traits_of_all_let_orders(self):
        for forbidden, fact in TABLE_PAIRS:
            rows = table(forbidden, fact)
            fewest = {}
            for order in let_to(forbidden, 5)[1:]:
                fewest.setdefault(traits(forbidden, fact, order), len(order))
            self.assertLessEqual(set(fewest), set(rows))
            self.assertEqual(list(rows), sorted(set(rows)))
            told = examples(forbidden, fact)
            self.assertEqual([row for row, _ in told], list(rows))
            for row, order in told:
                self.assertTrue(slow_lets(forbidden, order))
                self.assertEqual(traits(forbidden, fact, order), row)
                self.assertEqual(len(order), fewest.get(row, max(6, len(order))))

    def test_by_putting_together_again_and_again(self):
        for forbidden in NO_SIMPLE_LISTS:
            for fact in TABLE_FACTS[:3]:
                self.assertEqual(table(forbidden, fact), slow_table(forbidden, fact, slow_nodes(forbidden, 3)))
        small = ((1, 2, 3), (2, 1), (1, 2, 3, 4))
        for fact in TABLE_FACTS:
            self.assertEqual(table(small, fact), slow_table(small, fact, slow_nodes(small, 4)))

    def test_lists_with_little(self):
        self.assertEqual(table(NOTHING, EVEN), ())
        self.assertEqual(decided(NOTHING, EVEN), ("all", ()))
        self.assertEqual(decided(NOTHING, ("not", EVEN)), ("all", ()))
        self.assertEqual(examples(NOTHING, EVEN), [])
        self.assertEqual(table(((1, 2), (2, 1)), EVEN), (slow_traits(((1, 2), (2, 1)), EVEN, (1,)),))
        self.assertEqual(decided(((1, 2), (2, 1)), EVEN), ("breaks", (1,)))
        self.assertEqual(len(table(RISING, EVEN)), 3)
        self.assertEqual([order for _, order in examples(RISING, EVEN)], [(1,), (1, 2), (1, 2, 3)])

    def test_most(self):
        for forbidden in (RISING, TWO, ((2, 3, 1),), ELEVEN):
            for fact in (EVEN, TABLE_FACTS[2]):
                rows = table(forbidden, fact)
                for function in (table, decided, examples):
                    self.assertEqual(function(forbidden, fact, most=len(rows)), function(forbidden, fact))
                    self.assert_raises(TooMany, len(rows) - 1, function, forbidden, fact, most=len(rows) - 1)
                    self.assert_raises(TooMany, 0, function, forbidden, fact, most=0)
                size = len(table(forbidden, ("either", ("not", fact), EVEN)))
                self.assertEqual(implied(forbidden, fact, EVEN, most=size), implied(forbidden, fact, EVEN))
                self.assert_raises(TooMany, size - 1, implied, forbidden, fact, EVEN, most=size - 1)
        self.assertEqual(table(NOTHING, EVEN, most=0), ())

    def test_more_than_four_hundred_rows(self):
        fact = ("rest", "turns", 9, 0)
        rows = table(((2, 3, 1),), fact, most=424)
        self.assertEqual(len(rows), 424)
        for function in (table, decided, examples):
            self.assert_raises(TooMany, 400, function, ((2, 3, 1),), fact)
            self.assert_raises(TooMany, 423, function, ((2, 3, 1),), fact, most=423)
        self.assert_raises(TooMany, 400, implied, ((2, 3, 1),), fact, fact)
        self.assertEqual(decided(((2, 3, 1),), fact, most=600), ("breaks", (2, 1)))

    def test_errors(self):
        for function in (table, decided, examples):
            for told in NO_LISTS:
                self.assert_raises(InvalidList, told, function, told, None, most=-1)
            for told in NO_FACTS:
                self.assert_raises(InvalidFact, told, function, STAIRS, told, most=-1)
            for most in NO_NUMBERS:
                self.assert_raises(InvalidNumber, most, function, STAIRS, EVEN, most=most)
            with self.assertRaises(TypeError):
                function(TWO, EVEN, 400)
        for told in NO_LISTS:
            self.assert_raises(InvalidList, told, implied, told, None, None, most=-1)
        for told in NO_FACTS:
            self.assert_raises(InvalidFact, told, implied, STAIRS, told, None, most=-1)
            self.assert_raises(InvalidFact, told, implied, STAIRS, EVEN, told, most=-1)
        for most in NO_NUMBERS:
            self.assert_raises(InvalidNumber, most, implied, STAIRS, EVEN, EVEN, most=most)
        with self.assertRaises(TypeError):
            implied(TWO, EVEN, EVEN, 400)

    def test_lists_that_have_not_few(self):
        for forbidden, _ in FAMILY_LISTS[:6] + ROAD_LISTS[:3]:
            for function in (table, decided, examples):
                self.assert_raises(NotFew, fate(forbidden), function, forbidden, EVEN)
                self.assert_raises(NotFew, fate(forbidden), function, forbidden, EVEN, most=0)
            self.assert_raises(NotFew, fate(forbidden), implied, forbidden, EVEN, EVEN)
        for function in (table, decided, examples):
            self.assert_raises(TooMany, 300, function, MANY, EVEN)
            self.assert_raises(TooMany, 300, function, MANY, EVEN, most=10)
        self.assert_raises(TooMany, 300, implied, MANY, EVEN, EVEN)


class DecidedTest(Case):
    def test_all_or_an_order_of_fewest_things(self):
        for forbidden, fact in TABLE_PAIRS:
            kind, told = decided(forbidden, fact)
            breaking = [order for order in let_to(forbidden, 5)[1:] if not slow_truth(fact, order)]
            if kind == "all":
                self.assertEqual(breaking, [])
                self.assertEqual(told, table(forbidden, fact))
            else:
                self.assertEqual(kind, "breaks")
                self.assertFalse(slow_truth(fact, told))
                self.assertTrue(slow_lets(forbidden, told))
                self.assertEqual(len(told), len(breaking[0]) if breaking else max(6, len(told)))

    def test_a_breaking_order_of_many_things(self):
        self.assertEqual(decided(RISING, ("not", ("least", "things", 9))), ("breaks", tuple(range(1, 10))))
        self.assertEqual(decided(RISING, ("either", ("rest", "things", 9, 1), ("not", ("rest", "things", 4, 2)))),
                         ("breaks", (1, 2)))
        both = ("not", ("both", ("rest", "things", 9, 8), ("rest", "things", 4, 3)))
        self.assertEqual(decided(RISING, both), ("breaks", tuple(range(1, 36))))

    def test_implied(self):
        for forbidden in TABLE_LISTS[2:8]:
            for one in TABLE_FACTS[:4]:
                for other in TABLE_FACTS[1:6]:
                    fact = ("either", ("not", one), other)
                    kind, told = implied(forbidden, one, other)
                    self.assertEqual(kind, decided(forbidden, fact)[0])
                    if kind == "breaks":
                        self.assertTrue(slow_truth(one, told) and not slow_truth(other, told))
                        self.assertEqual(len(told), len(decided(forbidden, fact)[1]))
                    else:
                        self.assertEqual(told, table(forbidden, fact))
        self.assertEqual(implied(RISING, EVEN, ("least", "tops", 2))[0], "all")
        self.assertEqual(implied(RISING, ("least", "tops", 2), EVEN), ("breaks", (1, 2, 3)))

    def test_deep_facts(self):
        for forbidden in (RISING, TWO, ((1, 2, 3), (3, 2, 1)), ((3, 2, 1), (3, 1, 2, 4))):
            for fact in (SIX_DEEP, EIGHT_LEAVES):
                for told in (fact, ("not", fact)):
                    kind, found = decided(forbidden, told, most=3000)
                    breaking = [order for order in let_to(forbidden, 5)[1:] if not slow_truth(told, order)]
                    if kind == "breaks":
                        self.assertFalse(slow_truth(told, found))
                        self.assertEqual(len(found), len(breaking[0]) if breaking else max(6, len(found)))
                    else:
                        self.assertEqual(breaking, [])

    def test_several_simple_orders(self):
        self.assertEqual([len(simples(forbidden)) for forbidden in (ELEVEN, WIDE)], [11, 58])
        for n in range(1, 13):
            fact = ("not", ("least", "things", n))
            last = max(len(order) for order in let_to(ELEVEN, 6)[1:])
            self.assertEqual(decided(ELEVEN, fact)[0], "breaks" if n <= last else "all")

    def test_told_ones(self):
        self.assertEqual(decided(((2, 3, 1),), ("not", ("shows", (3, 1, 2), ()))), ("breaks", (3, 1, 2)))
        self.assertEqual(decided(RISING, ("least", "tops", 1))[0], "all")
        self.assertEqual([len(fate(forbidden)) for forbidden in FEW_LISTS[:3]], [3, 3, 3])


if __name__ == "__main__":
    unittest.main()

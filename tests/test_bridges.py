"""wholeorders.bridges: words and shapes count alike where both can, and lead to one another."""

import unittest

from tests.helpers import ENDLESS_LISTS, NO_LISTS, NO_NUMBERS, NOTHING, RISING, TWO, Case, all_orders, orders_to, slow_word
from tests.slow_tables import let_to, place_in_shapes
from wholeorders.alternations import endless
from wholeorders.blocks import from_shape, shape
from wholeorders.bridges import both_counts, first_unlike, shape_of_word, word_of_shape
from wholeorders.errors import InvalidList, InvalidNumber, InvalidPair, InvalidWord, NoMachine, NotFew, TooMany
from wholeorders.roads import fate
from wholeorders.slots import order_of

BOTH_LISTS = (NOTHING, RISING, ((1, 2),), ((1, 2), (2, 1)), TWO, ((1, 2, 3), (3, 2, 1)), ((2, 3, 1), (1, 3, 2)),
              ((2, 3, 1), (1, 2, 3, 4)), ((4, 3, 2, 1), (1, 2, 3)), ((2, 3, 1), (4, 3, 1, 2)), ((3, 2, 1), (3, 1, 2, 4)))
WITHOUT_END = (
    ((4, 3, 1, 2), (2, 1, 3, 4), (2, 4, 1, 3), (3, 4, 2, 5, 1)),
    ((1, 5, 2, 3, 4), (4, 1, 2, 3), (4, 2, 3, 1), (3, 4, 1, 2), (2, 1, 3, 4, 5)),
    ((2, 3, 1, 4, 5), (4, 1, 2, 3), (4, 3, 1, 2, 5), (1, 4, 3, 2), (2, 3, 4, 1), (3, 1, 2, 4)))
LONG = (tuple(range(1, 41)), tuple(range(40, 0, -1)), tuple(range(2, 41, 2)) + tuple(range(1, 40, 2)),
        tuple(at + 1 if at % 2 else at - 1 for at in range(1, 41)))
NO_SHAPES = (
    None, 3, "", "o", (), [], ["one"], ("one", ()), ("two",), ("sum", ("one",)), ("sum", ("one",), ("one",), ("one",)),
    ("sum", ("sum", ("one",), ("one",)), ("one",)), ("skew", ("skew", ("one",), ("one",)), ("one",)),
    ("sum", ["one"], ("one",)), ("simple", (2, 4, 1, 3), (("one",),) * 3), ("simple", (1, 2, 3, 4), (("one",),) * 4),
    ("simple", (2, 4, 1, 3), [("one",)] * 4), ("simple", [2, 4, 1, 3], (("one",),) * 4), ("sum", None, None))
NO_WHOLE_WORDS = (
    None, 3, "", "1f", (), [], [(1, 3)], ((1, 0),), ((1, 1),), ((2, 3),), ((1, 3), (1, 3)), ((1, 4),), ((0, 3),),
    ((1, -1),), ((True, 3),), ((1, "f"),), ([1, 3],), ((1, 3, 0),), ((1,),), (None,), ((1, 1), (2, 3)))


class CountsTest(Case):
    def test_both_count_alike(self):
        for forbidden in BOTH_LISTS:
            found = [len([order for order in let_to(forbidden, 6) if len(order) == n]) for n in range(7)]
            for n in (0, 1, 6, 40):
                words, shapes = both_counts(forbidden, n)
                self.assertEqual(words, shapes)
                self.assertEqual(len(words), n + 1)
                self.assertEqual(words[:7], found[:n + 1])
        self.assertEqual(both_counts(TWO, 5), ([1, 1, 2, 4, 8, 16], [1, 1, 2, 4, 8, 16]))

    def test_both_lists_are_new(self):
        words, shapes = both_counts(TWO, 3)
        words.append(7)
        self.assertEqual(shapes, [1, 1, 2, 4])


class UnlikeTest(Case):
    def test_by_both_sequences(self):
        for forbidden in BOTH_LISTS:
            for n in range(7):
                orders = [order for order in let_to(forbidden, 6) if len(order) == n]
                words = sorted(orders, key=slow_word)
                shapes = sorted(orders, key=place_in_shapes)
                unlike = [i for i in range(len(orders)) if words[i] != shapes[i]]
                self.assertEqual(first_unlike(forbidden, n), unlike[0] if unlike else None)

    def test_told_ones(self):
        self.assertEqual([first_unlike(TWO, n) for n in (0, 1, 2, 3)], [None, None, None, 0])
        self.assertIsNone(first_unlike(RISING, 6))


class LeadingTest(Case):
    def test_there_and_back(self):
        for order in orders_to(5)[1:] + all_orders(6)[::7] + list(LONG):
            told = shape(order)
            word = slow_word(order)
            self.assertEqual(word_of_shape(told), word)
            self.assertEqual(shape_of_word(word), told)
            self.assertEqual(order_of(word_of_shape(told)), from_shape(told))

    def test_told_ones(self):
        self.assertEqual(word_of_shape(("skew", ("one",), ("one",))), ((1, 2), (1, 3)))
        self.assertEqual(shape_of_word(((1, 3),)), ("one",))

    def test_errors(self):
        for told in NO_SHAPES:
            self.assert_raises(InvalidPair, told, word_of_shape, told)
        for told in NO_WHOLE_WORDS:
            self.assert_raises(InvalidWord, told, shape_of_word, told)


class ErrorsTest(Case):
    def test_lists_and_numbers(self):
        for function in (both_counts, first_unlike):
            for told in NO_LISTS:
                self.assert_raises(InvalidList, told, function, told, -1)
            for forbidden, kind in ENDLESS_LISTS:
                self.assert_raises(NoMachine, kind, function, forbidden, -1)
            for n in NO_NUMBERS:
                self.assert_raises(InvalidNumber, n, function, TWO, n)
                self.assert_raises(InvalidNumber, n, function, ((1, 2, 3, 4, 5), (5, 4, 3, 2, 1)), n)
            self.assert_raises(TooMany, 300, function, ((1, 2, 3, 4, 5), (5, 4, 3, 2, 1)), 2)

    def test_a_machine_and_no_few_simple_orders(self):
        for forbidden in WITHOUT_END:
            self.assertNotEqual(fate(forbidden)[0], "few")
            self.assertIsNone(endless(forbidden))
            for function in (both_counts, first_unlike):
                self.assert_raises(NotFew, fate(forbidden), function, forbidden, 3)
                self.assert_raises(InvalidNumber, -3, function, forbidden, -3)


if __name__ == "__main__":
    unittest.main()

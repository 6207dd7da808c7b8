"""wholeorders.slots: forms, letters and words."""

import unittest

from itertools import permutations, product

from tests.helpers import (LISTS, NO_LISTS, NO_ORDERS, Case, all_orders, orders_to, slow_forms, slow_lets, slow_word)
from wholeorders.errors import InvalidForm, InvalidLetter, InvalidList, InvalidOrder, InvalidWord
from wholeorders.slots import (filling, is_form, is_open, led, letters, order_of, put, slots, widest, word_of)

FORMS = ((0,), (1,), (0, 1), (1, 0), (0, 1, 0), (2, 0, 1), (0, 2, 1, 0), (2, 1, 3), (0, 3, 0, 1, 0, 2, 0))
NO_FORMS = (None, 0, "0", (), [0], [1, 0], (0, 0), (0, 2), (0, 1, 1), (1, 0, 0, 2), (0, -1), (0, "1"), (True, 0),
            (False,), (0, None), ((0,),), (1, 3, 0), (0, 1, 0, 0), {})
NO_LETTERS = (None, 1, "10", (), (1,), [1, 0], (1, 4), (1, -1), (0, 0), (-1, 0), (1, 0, 0), ("1", 0), (1, "0"),
              (True, 0), (1, True), (1, None), ((1, 0),))
LARGE_FORM = (0, 5, 0, 10, 2, 0, 8, 1, 7, 0, 4, 9, 3, 0, 6)


def fillings(form):
    """Return the orders that come of a form if each slot is filled by one number, ascending."""
    places = [place for place, number in enumerate(form) if number == 0]
    found = []
    for numbers in permutations(range(max(form) + 1, max(form) + 1 + len(places))):
        order = list(form)
        for place, number in zip(places, numbers):
            order[place] = number
        found.append(tuple(order))
    return sorted(found)


def forms_of(orders):
    """Return all forms on the way to orders."""
    return sorted({form for order in orders for form in slow_forms(order)})


class FormsTest(Case):
    def test_is_form(self):
        for form in FORMS + (LARGE_FORM, (0,) + tuple(x for at in range(1, 300) for x in (at, 0))):
            self.assertIs(is_form(form), True)
        for told in NO_FORMS:
            self.assertIs(is_form(told), False, told)
        for length in range(5):
            for told in product(range(4), repeat=length):
                numbers = sorted(number for number in told if number)
                right = numbers == list(range(1, len(numbers) + 1)) and length > 0
                if any(told[at] == told[at + 1] == 0 for at in range(length - 1)):
                    right = False
                self.assertIs(is_form(told), right)

    def test_slots(self):
        self.assertEqual([slots(form) for form in FORMS], [1, 0, 1, 1, 2, 1, 2, 0, 4])
        for told in NO_FORMS:
            self.assert_raises(InvalidForm, told, slots, told)

    def test_put(self):
        self.assertEqual([put((0,), (1, way)) for way in range(4)], [(0, 1, 0), (1, 0), (0, 1), (1,)])
        self.assertEqual(put((0, 2, 1, 0), (2, 0)), (0, 2, 1, 0, 3, 0))
        self.assertEqual(put((0, 2, 1, 0), (1, 3)), (3, 2, 1, 0))
        self.assertEqual(put(LARGE_FORM, (3, 2)), (0, 5, 0, 10, 2, 0, 11, 8, 1, 7, 0, 4, 9, 3, 0, 6))

    def test_letters(self):
        self.assertEqual(letters((1,)), [])
        self.assertEqual(letters((0, 1)), [(1, 0), (1, 1), (1, 2), (1, 3)])
        self.assertEqual(letters((0, 1, 0)), [(s, way) for s in (1, 2) for way in range(4)])
        for form in FORMS:
            found = letters(form)
            self.assertEqual(found, sorted(set(found)))
            self.assertEqual(len(found), 4 * form.count(0))
            self.assertTrue(all(is_form(put(form, letter)) for letter in found))

    def test_errors(self):
        for told in NO_FORMS:
            self.assert_raises(InvalidForm, told, put, told, (1, 0))
            self.assert_raises(InvalidForm, told, put, told, (0, 0))
            self.assert_raises(InvalidForm, told, letters, told)
        for told in NO_LETTERS + ((3, 0), (10 ** 20, 1)):
            self.assert_raises(InvalidLetter, told, put, (0, 1, 0), told)
        self.assert_raises(InvalidLetter, (1, 3), put, (1,), (1, 3))


class WordsTest(Case):
    def test_each_order_has_just_one_whole_word(self):
        whole = {}
        for order in orders_to(6)[1:]:
            word = word_of(order)
            self.assertEqual(word, slow_word(order))
            self.assertEqual(order_of(word), order)
            self.assertEqual([led(word[:at]) for at in range(len(word) + 1)], slow_forms(order))
            self.assertNotIn(word, whole)
            whole[word] = order

    def test_each_whole_word_is_that_of_its_order(self):
        words = {(): (0,)}
        whole = {}
        for _ in range(4):
            words = {word + (letter,): put(form, letter) for word, form in words.items() for letter in letters(form)}
            for word, form in words.items():
                self.assertEqual(led(word), form)
                if 0 in form:
                    self.assert_raises(InvalidWord, word, order_of, word)
                else:
                    self.assertEqual(order_of(word), form)
                    self.assertEqual(word_of(form), word)
                    whole[word] = form
        self.assertEqual(sorted(whole.values()), sorted(orders_to(4)[1:]))

    def test_large_ones(self):
        order = (7, 2, 11, 4, 9, 1, 12, 6, 3, 10, 5, 8)
        self.assertEqual(word_of(order), slow_word(order))
        self.assertEqual(order_of(word_of(order)), order)
        rising = tuple(range(1, 121))
        self.assertEqual(word_of(rising), ((1, 1),) * 119 + ((1, 3),))
        self.assertEqual(order_of(word_of(rising)), rising)

    def test_edges(self):
        self.assertEqual(led(()), (0,))
        self.assertEqual(word_of((1,)), ((1, 3),))
        self.assertEqual(order_of(((1, 3),)), (1,))
        self.assert_raises(InvalidWord, (), order_of, ())

    def test_widest(self):
        for order in orders_to(6)[1:]:
            self.assertEqual(widest(order), max(form.count(0) for form in slow_forms(order)))
        self.assertEqual(widest((1,)), 1)
        self.assertEqual(widest((7, 1, 8, 2, 9, 3, 10, 4, 11, 5, 12, 6)), 6)

    def test_errors(self):
        for told in NO_ORDERS + ((),):
            self.assert_raises(InvalidOrder, told, word_of, told)
            self.assert_raises(InvalidOrder, told, widest, told)
        bad = [None, 3, "", [], [(1, 0)], ((2, 0),), ((1, 3), (1, 3)), ((1, 0), (3, 0)), ((1, 1), (2, 3))]
        bad += [(letter,) for letter in NO_LETTERS] + [((1, 0), letter) for letter in NO_LETTERS]
        for told in bad:
            self.assert_raises(InvalidWord, told, led, told)
            self.assert_raises(InvalidWord, told, order_of, told)


class OpenTest(Case):
    def test_all_forms_of_orders_of_few_things(self):
        for forbidden in LISTS:
            for form in forms_of(all_orders(4)):
                let = [order for order in fillings(form) if slow_lets(forbidden, order)]
                self.assertEqual(filling(forbidden, form), let[0] if let else None)
                self.assertIs(is_open(forbidden, form), len(let) > 0)

    def test_a_form_is_open_exactly_if_a_let_order_comes_of_it(self):
        for forbidden in LISTS:
            on_the_way = set(forms_of([order for order in orders_to(6)[1:] if slow_lets(forbidden, order)]))
            for form in forms_of(all_orders(4)):
                if len(form) <= 6:
                    self.assertIs(is_open(forbidden, form), form in on_the_way)

    def test_edges(self):
        self.assertEqual(filling((), (0,)), (1,))
        self.assertIsNone(filling(((1,),), (0,)))
        self.assertIs(is_open(((1,),), (0,)), False)
        self.assertEqual(filling((), (2, 1, 3)), (2, 1, 3))
        self.assertIsNone(filling(((2, 1),), (2, 1, 3)))
        self.assertEqual(filling((), LARGE_FORM), (11, 5, 12, 10, 2, 13, 8, 1, 7, 14, 4, 9, 3, 15, 6))
        falling = ((1, 5, 2, 3, 4), (2, 1, 4, 5, 3))
        found = [order for order in fillings(LARGE_FORM) if slow_lets(falling, order)]
        self.assertEqual(filling(falling, LARGE_FORM), found[0] if found else None)
        self.assertIsNone(filling(((1, 2, 3),), LARGE_FORM))
        self.assertIsNone(filling(((1, 2, 3), (3, 2, 1)), (0, 1, 0, 2, 0)))

    def test_errors(self):
        for function in (is_open, filling):
            for told in NO_FORMS:
                self.assert_raises(InvalidForm, told, function, ((1, 2),), told)
                self.assert_raises(InvalidForm, told, function, (7,), told)
                self.assert_raises(InvalidForm, told, function, forbidden=None, form=told)
            for told in NO_LISTS:
                self.assert_raises(InvalidList, told, function, told, (0, 1))


if __name__ == "__main__":
    unittest.main()

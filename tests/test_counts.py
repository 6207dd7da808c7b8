"""wholeorders.counts: how many orders a list with a machine lets, and by which rule."""

import unittest
from fractions import Fraction
from math import comb

from tests.helpers import (ENDLESS_LISTS, MOST_STATES, NO_LISTS, NO_NUMBERS, NOTHING, RISING, STOPPING_LISTS, TWO, Case,
                           all_orders, slow_lets)
from wholeorders.counts import count, counts, degree, rule
from wholeorders.errors import InvalidList, InvalidNumber, NoMachine
from wholeorders.lists import let_of

ONE_ALONE = ((1, 2), (2, 1))
FINITE = ((1, 2, 3), (2, 1, 4, 3), (4, 3, 2, 1))
SIXTH_POWERS = ((2, 3, 1), (1, 2, 3, 5, 4), (4, 3, 1, 2, 5), (3, 1, 2, 4))


def goes_on(numbers, times):
    """Tell whether all numbers behind the first ones come of a rule."""
    many = len(times)
    return all(numbers[n] == sum(Fraction(*times[back]) * numbers[n - 1 - back] for back in range(many))
               for n in range(many, len(numbers)))


def has_rule_of(numbers, many):
    """Tell whether some rule of so many numbers gives all numbers behind the first ones (Gauss)."""
    rows = [[Fraction(numbers[n - 1 - back]) for back in range(many)] + [Fraction(numbers[n])]
            for n in range(many, len(numbers))]
    done = 0
    for column in range(many):
        pivot = [at for at in range(done, len(rows)) if rows[at][column]]
        if pivot:
            rows[done], rows[pivot[0]] = rows[pivot[0]], rows[done]
            for at in range(len(rows)):
                if at != done and rows[at][column]:
                    times = rows[at][column] / rows[done][column]
                    rows[at] = [a - times * b for a, b in zip(rows[at], rows[done])]
            done += 1
    return not any(row[many] for row in rows[done:])


class CountsTest(Case):
    def test_what_the_orders_give(self):
        for forbidden in STOPPING_LISTS:
            let = [len([order for order in all_orders(n) if slow_lets(forbidden, order)]) for n in range(7)]
            self.assertEqual(counts(forbidden, 6), let)
            self.assertEqual([count(forbidden, n) for n in range(7)], let)
            self.assertEqual(counts(forbidden, 7)[7], len(let_of(forbidden, 7)))

    def test_known_ones(self):
        self.assertEqual(counts(TWO, 5), [1, 1, 2, 4, 8, 16])
        self.assertEqual(count(TWO, 200), 2 ** 199)
        self.assertEqual(counts(RISING, 200), [1] * 201)
        self.assertEqual(counts(NOTHING, 4), [1, 0, 0, 0, 0])
        self.assertEqual(counts(ONE_ALONE, 4), [1, 1, 0, 0, 0])
        self.assertEqual([counts(TWO, 0), counts(NOTHING, 0)], [[1], [1]])
        self.assertEqual(counts(((1, 2, 3, 4), (4, 3, 2, 1)), 10), [1, 1, 2, 6, 22, 86, 306, 882, 1764, 1764, 0])
        odd_fibonacci = [1, 1]
        while len(odd_fibonacci) < 201:
            odd_fibonacci.append(3 * odd_fibonacci[-1] - odd_fibonacci[-2])
        self.assertEqual(counts(((2, 3, 1), (4, 3, 1, 2)), 200), odd_fibonacci)

    def test_of_as_many_states_as_there_may_be(self):
        found = counts(MOST_STATES, 200)
        self.assertEqual(found[:8], [len(let_of(MOST_STATES, n)) for n in range(8)])
        firsts, times = rule(MOST_STATES)
        self.assertEqual(firsts, tuple(found[:len(firsts)]))
        self.assertTrue(goes_on(found, times))
        self.assertFalse(has_rule_of(found[:80], len(times) - 1))
        self.assertEqual(count(MOST_STATES, 200), found[200])

    def test_errors(self):
        for told in NO_LISTS:
            self.assert_raises(InvalidList, told, count, told, 3)
            self.assert_raises(InvalidList, told, counts, told, -1)
        for forbidden, kind in ENDLESS_LISTS:
            self.assert_raises(NoMachine, kind, count, forbidden, 3)
            self.assert_raises(NoMachine, kind, count, forbidden, -1)
            self.assert_raises(NoMachine, kind, counts, n=None, forbidden=forbidden)
        for n in NO_NUMBERS:
            self.assert_raises(InvalidNumber, n, count, TWO, n)
            self.assert_raises(InvalidNumber, n, counts, TWO, n)


class RuleTest(Case):
    def test_the_shortest_one(self):
        for forbidden in STOPPING_LISTS:
            firsts, times = rule(forbidden)
            found = counts(forbidden, 40)
            self.assertGreater(len(times), 0)
            self.assertEqual(firsts, tuple(found[:len(times)]))
            self.assertTrue(goes_on(found, times))
            if len(times) > 1:
                self.assertFalse(has_rule_of(found, len(times) - 1))
            for top, bottom in times:
                self.assertEqual((type(top), bottom), (int, 1))

    def test_told_ones(self):
        self.assertEqual(rule(TWO), ((1, 1), ((2, 1), (0, 1))))
        self.assertEqual(rule(RISING), ((1,), ((1, 1),)))
        self.assertEqual(rule(NOTHING), ((1,), ((0, 1),)))
        self.assertEqual(rule(ONE_ALONE), ((1, 1), ((0, 1), (0, 1))))
        self.assertEqual(rule(((2, 3, 1), (4, 3, 1, 2))), ((1, 1), ((3, 1), (-1, 1))))
        self.assertEqual(rule(((4, 1, 3, 2), (2, 3, 1, 4)))[1], ((7, 1), (-16, 1), (16, 1), (-4, 1)))

    def test_errors(self):
        for function in (rule, degree):
            for told in NO_LISTS:
                self.assert_raises(InvalidList, told, function, told)
            for forbidden, kind in ENDLESS_LISTS:
                self.assert_raises(NoMachine, kind, function, forbidden)


class DegreeTest(Case):
    def test_told_ones(self):
        self.assertEqual([degree(NOTHING), degree(ONE_ALONE), degree(FINITE)], [-1, -1, -1])
        self.assertEqual([degree(RISING), degree(((1, 2, 3), (2, 3, 1), (1, 4, 3, 2)))], [0, 1])
        self.assertEqual([degree(((2, 3, 1), (1, 2, 4, 3), (2, 1, 3))), degree(SIXTH_POWERS)], [2, 6])
        self.assertEqual([degree(TWO), degree(((4, 1, 3, 2), (2, 3, 1, 4)))], [None, None])

    def test_differences_tell_it(self):
        for forbidden in STOPPING_LISTS + (SIXTH_POWERS,):
            row = counts(forbidden, 60)[30:]
            found = None
            for many in range(12):
                if found is None and not any(row):
                    found = many - 1
                row = [b - a for a, b in zip(row, row[1:])]
            self.assertEqual(degree(forbidden), found)

    def test_a_polynomial_from_the_start(self):
        squares = ((1, 3, 2), (3, 2, 1))
        self.assertEqual(counts(squares, 12), [1 + comb(n, 2) for n in range(13)])
        self.assertEqual(degree(squares), 2)


if __name__ == "__main__":
    unittest.main()

"""wholeorders.rates: how fast the counts grow, exactly."""

import unittest
from fractions import Fraction
from functools import reduce
from math import gcd

from tests.helpers import ENDLESS_LISTS, MOST_STATES, NO_LISTS, NOTHING, RISING, STOPPING_LISTS, TWO, Case
from wholeorders.counts import counts, rule
from wholeorders.errors import InvalidList, NoMachine
from wholeorders.lists import inverse_list, mirrored_list, turned_list
from wholeorders.alternations import endless
from wholeorders.rates import faster, holder_of_greatest, rate

FIBONACCI = ((2, 3, 1), (4, 3, 1, 2))
FINITE = ((1, 2, 3), (2, 1, 4, 3), (4, 3, 2, 1))
LISTS = STOPPING_LISTS + (MOST_STATES,)


def divided(one, other):
    """Return the quotient and the rest of two polynomials with fractions, highest power first."""
    rest = [Fraction(number) for number in one]
    quotient = []
    while len(rest) >= len(other):
        times = rest[0] / other[0]
        quotient.append(times)
        rest = [a - times * b for a, b in zip(rest, list(other) + [0] * (len(rest) - len(other)))][1:]
    while rest and rest[0] == 0:
        rest = rest[1:]
    return quotient, rest


def common(one, other):
    """Return the greatest common divisor of two polynomials (Euclid)."""
    while other:
        one, other = other, divided(one, other)[1]
    return one


def derivative(polynomial):
    high = len(polynomial) - 1
    return [number * (high - at) for at, number in enumerate(polynomial[:-1])]


def value(polynomial, at):
    found = Fraction(0)
    for number in polynomial:
        found = found * at + number
    return found


def roots_above(polynomial, at):
    """Return how many real roots of a polynomial, each once in it, are above a number that is none (Sturm)."""
    row = [[Fraction(number) for number in polynomial], [Fraction(number) for number in derivative(polynomial)]]
    while row[-1]:
        row.append([-number for number in divided(row[-2], row[-1])[1]])
    row = row[:-1]
    here = [value(one, at) > 0 for one in row if value(one, at) != 0]
    far = [one[0] > 0 for one in row]
    return (len([1 for a, b in zip(here, here[1:]) if a != b]) - len([1 for a, b in zip(far, far[1:]) if a != b]))


class RateTest(Case):
    def test_the_shape_has_the_same_roots_each_once(self):
        for forbidden in LISTS:
            shape = rate(forbidden)[0]
            whole = [1] + [-Fraction(*number) for number in rule(forbidden)[1]]
            self.assertEqual({type(number) for number in shape}, {int})
            self.assertGreater(shape[0], 0)
            self.assertEqual(reduce(gcd, shape), 1)
            self.assertEqual(divided(whole, shape)[1], [])
            self.assertEqual(len(common(shape, derivative(shape))), 1)
            left = whole
            while len(common(left, shape)) > 1:
                left = divided(left, common(left, shape))[0]
            self.assertEqual(len(left), 1)

    def test_low_and_high(self):
        for forbidden in LISTS:
            shape, low, high = rate(forbidden)
            for top, bottom in (low, high):
                self.assertGreater(bottom, 0)
                self.assertEqual(gcd(top, bottom), 1)
            low, high = Fraction(*low), Fraction(*high)
            self.assertLessEqual(low, high)
            self.assertLessEqual(high - low, Fraction(1, 1000))
            if low == high:
                self.assertEqual(value(shape, low), 0)
            tiny = Fraction(1, 10 ** 9)
            self.assertEqual(roots_above(shape, high + tiny), 0)
            self.assertGreaterEqual(roots_above(shape, low - tiny), 1)

    def test_a_rate_that_is_a_fraction_is_told_so(self):
        for forbidden in LISTS:
            shape, low, high = rate(forbidden)
            whole = [number for number in range(40) if value(shape, number) == 0]
            if whole and roots_above(shape, max(whole) + Fraction(1, 10 ** 9)) == 0:
                self.assertEqual([low, high], [(max(whole), 1)] * 2)
            else:
                self.assertLess(Fraction(*low), Fraction(*high))

    def test_the_counts_grow_so(self):
        for forbidden in LISTS:
            found = counts(forbidden, 200)
            shape, low, high = rate(forbidden)
            if found[200] == 0:
                self.assertEqual((low, high), ((0, 1), (0, 1)))
            else:
                self.assertLessEqual(abs(Fraction(found[200], found[199]) - Fraction(*low)), Fraction(1, 10))

    def test_told_ones(self):
        self.assertEqual(rate(TWO), ((1, -2, 0), (2, 1), (2, 1)))
        self.assertEqual(rate(RISING), ((1, -1), (1, 1), (1, 1)))
        self.assertEqual(rate(NOTHING), ((1, 0), (0, 1), (0, 1)))
        self.assertEqual(rate(FINITE), ((1, 0), (0, 1), (0, 1)))
        self.assertEqual(rate(FIBONACCI)[0], (1, -3, 1))
        self.assertEqual(rate(((2, 3, 4, 1, 5), (3, 2, 1)))[0], (1, -4, 4, -1))
        threes = ((5, 2, 1, 3, 4), (1, 4, 3, 5, 2), (1, 3, 2, 4), (1, 2, 3), (3, 2, 5, 1, 4))
        self.assertEqual(rate(threes), ((1, -4, 3, 0), (3, 1), (3, 1)))

    def test_errors(self):
        for told in NO_LISTS:
            self.assert_raises(InvalidList, told, rate, told)
        for forbidden, kind in ENDLESS_LISTS:
            self.assert_raises(NoMachine, kind, rate, forbidden)


class FasterTest(Case):
    def test_all_pairs(self):
        rates = {forbidden: rate(forbidden) for forbidden in STOPPING_LISTS}
        for one in STOPPING_LISTS:
            for other in STOPPING_LISTS:
                found = faster(one, other)
                self.assertEqual(found, -faster(other, one))
                bounds = [Fraction(*rates[one][1]), Fraction(*rates[one][2])]
                others = [Fraction(*rates[other][1]), Fraction(*rates[other][2])]
                if bounds[0] > others[1]:
                    self.assertEqual(found, 1)
                elif bounds[1] < others[0]:
                    self.assertEqual(found, -1)
                else:
                    self.check_near(rates[one][0], rates[other][0], bounds[0], found)

    def check_near(self, one, other, low, found):
        """Two rates that are within a thousandth are the same exactly if both shapes have a root there in common."""
        both = common(one, other)
        same = len(both) > 1 and roots_above(both, low - Fraction(1, 10 ** 6)) > 0
        self.assertEqual(found == 0, same)

    def test_told_ones(self):
        self.assertEqual(faster(TWO, RISING), 1)
        self.assertEqual(faster(RISING, TWO), -1)
        self.assertEqual(faster(NOTHING, FINITE), 0)
        self.assertEqual(faster(RISING, NOTHING), 1)
        self.assertEqual(faster(FIBONACCI, ((2, 3, 4, 1, 5), (3, 2, 1))), 0)
        self.assertEqual(faster(TWO, ((2, 3, 1, 4), (3, 1, 2), (2, 3, 4, 1))), 0)
        self.assertEqual(faster(FIBONACCI, ((1, 2, 3), (5, 1, 4, 3, 2), (2, 3, 4, 1), (5, 2, 1, 4, 3))), 1)
        self.assertEqual([faster(MOST_STATES, TWO), faster(MOST_STATES, RISING)], [-1, 0])

    def test_rates_that_are_close(self):
        self.assertEqual(holder_of_greatest([[1, -10 ** 6, -1], [1], [1, -10 ** 6]]), 0)
        self.assertEqual(holder_of_greatest([[1, -10 ** 6], [1], [1, -10 ** 6, -1]]), 2)
        self.assertEqual(holder_of_greatest([[1, 0, -2], [1, -3], [1, 0, -9 + 1]]), 1)
        self.assertEqual(holder_of_greatest([[1], [1, 0], [1]]), 1)

    def test_turned_lists_are_as_fast(self):
        for forbidden in STOPPING_LISTS:
            for turn in (turned_list, mirrored_list, inverse_list):
                if endless(turn(forbidden)) is None:
                    self.assertEqual(faster(forbidden, turn(forbidden)), 0)

    def test_errors(self):
        for told in NO_LISTS:
            self.assert_raises(InvalidList, told, faster, told, TWO)
            self.assert_raises(InvalidList, told, faster, TWO, told)
            self.assert_raises(InvalidList, told, faster, told, (7,))
        for forbidden, kind in ENDLESS_LISTS:
            self.assert_raises(NoMachine, kind, faster, forbidden, TWO)
            self.assert_raises(NoMachine, kind, faster, TWO, forbidden)
            self.assert_raises(NoMachine, kind, faster, forbidden, None)
            self.assert_raises(InvalidList, None, faster, None, forbidden)


if __name__ == "__main__":
    unittest.main()

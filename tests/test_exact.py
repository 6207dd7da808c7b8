"""wholeorders.moduli, recurrences and polynomials: what is read off by a prime is exact."""

import unittest

from wholeorders.moduli import EXPONENTS, inverse_by, moduli, nearest
from wholeorders.polynomials import common_divisor, derivative, divided, square_free, taylor_numbers
from wholeorders.recurrences import shortest_rule

LARGE = (1 << 600) + 7


def is_mersenne_prime(exponent):
    """Tell whether 2 to an odd exponent less 1 is a prime (Lucas, Lehmer)."""
    number = 2 ** exponent - 1
    rest = 4
    for _ in range(exponent - 2):
        rest = (rest * rest - 2) % number
    return rest == 0


def times(one, other):
    """Return the product of two polynomials."""
    found = [0] * (len(one) + len(other) - 1)
    for i, a in enumerate(one):
        for j, b in enumerate(other):
            found[i + j] += a * b
    return found


class ModuliTest(unittest.TestCase):
    def test_they_are_primes(self):
        self.assertEqual(moduli(), [2 ** exponent - 1 for exponent in EXPONENTS])
        for exponent in EXPONENTS:
            self.assertTrue(is_mersenne_prime(exponent))

    def test_inverse_and_nearest(self):
        for modulus in (7, 2 ** 127 - 1):
            for number in (1, 2, 3, -1, 5, modulus - 1, modulus + 4):
                self.assertEqual(inverse_by(number, modulus) * number % modulus, 1)
        self.assertEqual([nearest(number, 7) for number in range(-4, 8)], [3, -3, -2, -1, 0, 1, 2, 3, -3, -2, -1, 0])


class RecurrencesTest(unittest.TestCase):
    def test_small_ones(self):
        self.assertEqual(shortest_rule([1, 0, 0, 0]), [0])
        self.assertEqual(shortest_rule([1, 1, 0, 0, 0, 0]), [0, 0])
        self.assertEqual(shortest_rule([1, 1, 2, 3, 5, 8]), [1, 1])
        self.assertEqual(shortest_rule([1, 1, 2, 4, 8, 16]), [2, 0])
        self.assertEqual(shortest_rule([1, 0, 0, 1, 0, 0, 1, 0]), [0, 0, 1])
        self.assertEqual(shortest_rule([1, 0, 0, 0, 5, 0, 0, 0, 0, 0, 0, 0]), [0, 0, 0, 0, 0])

    def test_numbers_that_the_least_moduli_do_not_tell(self):
        numbers = [1, 2]
        while len(numbers) < 12:
            numbers.append(LARGE * numbers[-1] - 3 * numbers[-2])
        self.assertEqual(shortest_rule(numbers), [LARGE, -3])


class PolynomialsTest(unittest.TestCase):
    def test_common_divisors(self):
        for one, other, both in (([1, -3, 2], [1, -1], [1, -1]), ([1, 0, -2], [1, -3], [1]), ([1, 0], [1, 0], [1, 0]),
                                 ([1, -2, 1], [2, -2], [1, -1]), ([1, 0, 0], [2, 0], [1, 0]), ([1, 4], [1], [1])):
            self.assertEqual(common_divisor(one, other), both)

    def test_numbers_that_the_least_moduli_do_not_tell(self):
        one = times([1, -LARGE], [1, 5])
        other = times([1, -LARGE], [1, 6, 1])
        self.assertEqual(common_divisor(one, other), [1, -LARGE])
        self.assertEqual(common_divisor(one, [1, 5]), [1, 5])

    def test_a_prime_that_divides_what_keeps_them_apart(self):
        self.assertEqual(common_divisor([1, 0], [1, -(2 ** 127 - 1)]), [1])
        self.assertEqual(square_free([1, -(2 ** 127 - 1), 0]), [1, -(2 ** 127 - 1), 0])

    def test_square_free(self):
        for roots in ([1, 1, 1], [0, 0, 2, 2, -3], [5], [1, 2, 3], [7] * 30 + [-7] * 20 + [0]):
            whole, each = [1], [1]
            for root in roots:
                whole = times(whole, [1, -root])
            for root in sorted(set(roots)):
                each = times(each, [1, -root])
            self.assertEqual(square_free(whole), each)

    def test_divided_and_derivative(self):
        self.assertEqual(divided([1, 2, 3], [1, 1]), ([1, 1], [2]))
        self.assertEqual(divided([1], [1, 1]), ([], [1]))
        self.assertEqual([derivative([1, -3, 2, 7]), derivative([1])], [[3, -6, 2], []])

    def test_taylor_numbers(self):
        self.assertEqual(taylor_numbers([1], 3, 0), [1])
        self.assertEqual(taylor_numbers([1, -2, 0], 3, 0), [3, 4, 1])
        self.assertEqual(taylor_numbers([1, -2, 0], 1, 0), [-1])
        self.assertEqual(taylor_numbers([1, -2, 0], 5, 1), [5, 6, 1])


if __name__ == "__main__":
    unittest.main()

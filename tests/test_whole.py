"""Point 1.1 and the interface of fieldmaps.whole."""

import unittest
from math import gcd, prod

from fieldmaps.errors import Refused, ZeroDivisor
from fieldmaps.whole import (
    by_squaring,
    cofactors,
    common,
    digits,
    divisors,
    inverse_modulo,
    is_integer,
    is_prime,
    least_exponent,
    moebius,
    power_modulo,
    power_within,
    prime_divisors,
    prime_powers,
)
from tests.small_fields import FOUR

SIGNED = range(-30, 31)


def primes_below(limit):
    """By the sieve, without a function of the program."""
    left = [True] * limit
    left[0:2] = [False, False]
    for n in range(2, limit):
        if left[n]:
            for multiple in range(2 * n, limit, n):
                left[multiple] = False
    return [n for n in range(limit) if left[n]]


class TestIsInteger(unittest.TestCase):
    def test_integers(self):
        for value in (0, 1, -1, 2, -17, 10**30, -(10**30)):
            self.assertIs(is_integer(value), True, value)

    def test_true_and_false_are_no_integers(self):
        self.assertIs(is_integer(True), False)
        self.assertIs(is_integer(False), False)

    def test_every_other_value(self):
        for value in (None, "", "1", "0", [], [1], (), (1,), ((1,), 2), [None], FOUR, Refused("large"), Refused):
            self.assertIs(is_integer(value), False, value)


class TestIsPrime(unittest.TestCase):
    def test_all_below_3000(self):
        primes = primes_below(3000)
        self.assertEqual([n for n in range(3000) if is_prime(n)], primes)

    def test_zero_one_and_negative_numbers(self):
        for n in (0, 1, -1, -2, -3, -4, -5, -7, -397, -(10**20)):
            self.assertIs(is_prime(n), False, n)

    def test_answers_are_booleans(self):
        for n in (2, 3, 397, 2**31 - 1):
            self.assertIs(is_prime(n), True, n)
        for n in (4, 9, 399, 2**31):
            self.assertIs(is_prime(n), False, n)

    def test_squares_of_primes_and_products_that_look_prime(self):
        for n in (25, 49, 121, 397 * 397, 389 * 397, 561, 1105, 1729, 2047, 65537 * 65539):
            self.assertIs(is_prime(n), False, n)


class TestPrimePowers(unittest.TestCase):
    def test_one_has_none(self):
        self.assertEqual(prime_powers(1), ())

    def test_examples(self):
        self.assertEqual(prime_powers(2), ((2, 1),))
        self.assertEqual(prime_powers(8), ((2, 3),))
        self.assertEqual(prime_powers(360), ((2, 3), (3, 2), (5, 1)))
        self.assertEqual(prime_powers(397 * 397), ((397, 2),))
        self.assertEqual(prime_powers(2 * 1000003), ((2, 1), (1000003, 1)))

    def test_product_order_and_primes(self):
        primes = primes_below(1500)
        for n in range(1, 1500):
            pairs = prime_powers(n)
            self.assertIs(type(pairs), tuple)
            self.assertEqual(prod(p**k for p, k in pairs), n)
            self.assertEqual([p for p, _ in pairs], [p for p in primes if n % p == 0])
            self.assertTrue(all(k >= 1 for _, k in pairs))
            self.assertTrue(all(type(pair) is tuple for pair in pairs))


class TestDivisors(unittest.TestCase):
    def test_one(self):
        self.assertEqual(divisors(1), (1,))

    def test_examples(self):
        self.assertEqual(divisors(7), (1, 7))
        self.assertEqual(divisors(12), (1, 2, 3, 4, 6, 12))
        self.assertEqual(divisors(64), (1, 2, 4, 8, 16, 32, 64))

    def test_all_up_to_600(self):
        for n in range(1, 601):
            self.assertEqual(divisors(n), tuple(d for d in range(1, n + 1) if n % d == 0))


class TestCommon(unittest.TestCase):
    def test_none_and_zeros(self):
        for numbers in ([], (), [0], (0,), [0, 0, 0], (0, 0)):
            self.assertEqual(common(numbers), 0, numbers)

    def test_one_number(self):
        for n in SIGNED:
            self.assertEqual(common([n]), abs(n))

    def test_lists_and_tuples(self):
        self.assertEqual(common([12, 18, 30]), 6)
        self.assertEqual(common((12, 18, 35)), 1)
        self.assertEqual(common((0, 15, 0, 10)), 5)

    def test_negative_numbers(self):
        self.assertEqual(common([-12]), 12)
        self.assertEqual(common([-12, -18]), 6)
        self.assertEqual(common((0, -4)), 4)
        self.assertEqual(common((-4, 0)), 4)
        self.assertEqual(common((6, -4, 10)), 2)

    def test_pairs(self):
        for a in SIGNED:
            for b in SIGNED:
                self.assertEqual(common((a, b)), gcd(a, b))

    def test_argument_stays(self):
        numbers = [4, 0, -6]
        self.assertEqual(common(numbers), 2)
        self.assertEqual(numbers, [4, 0, -6])
        self.assertEqual(common(numbers), 2)


class TestCofactors(unittest.TestCase):
    def check(self, a, b):
        result = cofactors(a, b)
        self.assertIs(type(result), tuple)
        g, u, v = result
        self.assertEqual(g, gcd(a, b), (a, b))
        self.assertEqual(u * a + v * b, g, (a, b))

    def test_small_numbers_with_zeros_and_negative_ones(self):
        for a in SIGNED:
            for b in SIGNED:
                self.check(a, b)

    def test_zeros(self):
        self.assertEqual(cofactors(0, 0)[0], 0)
        self.assertEqual(cofactors(0, -5)[0], 5)
        self.assertEqual(cofactors(-5, 0)[0], 5)

    def test_large_numbers(self):
        self.check(10**40 + 7, 3**60)
        self.check(-(2**70), 6**30)


class TestPowerModulo(unittest.TestCase):
    def test_modulus_one(self):
        for a in (-2, -1, 0, 1, 5):
            for k in (0, 1, 2, 9):
                self.assertEqual(power_modulo(a, k, 1), 0)

    def test_exponent_zero(self):
        for a in (-3, 0, 1, 7, 14):
            for m in (2, 3, 7):
                self.assertEqual(power_modulo(a, 0, m), 1)

    def test_small_numbers(self):
        for a in range(-8, 9):
            for k in range(8):
                for m in range(1, 12):
                    self.assertEqual(power_modulo(a, k, m), a**k % m)

    def test_large_exponents(self):
        self.assertEqual(power_modulo(3, 10**30, 397), pow(3, 10**30, 397))
        self.assertEqual(power_modulo(-5, 2**100 + 1, 10**9 + 7), pow(-5, 2**100 + 1, 10**9 + 7))


class TestInverseModulo(unittest.TestCase):
    def test_modulus_one(self):
        for a in (-3, -1, 0, 1, 2, 10):
            self.assertEqual(inverse_modulo(a, 1), 0)

    def test_small_numbers(self):
        for m in range(1, 40):
            for a in SIGNED:
                if gcd(a, m) == 1:
                    inverse = inverse_modulo(a, m)
                    self.assertIn(inverse, range(m))
                    self.assertEqual((a * inverse - 1) % m, 0, (a, m))
                else:
                    with self.assertRaises(ZeroDivisor):
                        inverse_modulo(a, m)

    def test_negative_numbers(self):
        self.assertEqual(inverse_modulo(-1, 7), 6)
        self.assertEqual(inverse_modulo(-3, 10), 3)
        self.assertEqual(inverse_modulo(-9, 2), 1)

    def test_not_coprime(self):
        for a, m in ((0, 2), (0, 397), (2, 4), (-2, 4), (6, 9), (7, 7), (-14, 7), (10, 15)):
            with self.assertRaises(ZeroDivisor):
                inverse_modulo(a, m)


class TestMoebius(unittest.TestCase):
    def test_example_of_the_document(self):
        self.assertEqual([moebius(n) for n in range(1, 7)], [1, -1, -1, 0, -1, 1])

    def test_squares_and_products(self):
        self.assertEqual(moebius(1), 1)
        self.assertEqual(moebius(30), -1)
        self.assertEqual(moebius(210), 1)
        self.assertEqual(moebius(49), 0)
        self.assertEqual(moebius(2 * 3 * 7 * 7), 0)
        self.assertEqual(moebius(3 * 8), 0)

    def test_by_its_definition(self):
        primes = primes_below(800)
        for n in range(1, 800):
            if any(n % (p * p) == 0 for p in primes):
                self.assertEqual(moebius(n), 0, n)
            else:
                self.assertEqual(moebius(n), (-1) ** len([p for p in primes if n % p == 0]), n)


class TestHelpers(unittest.TestCase):
    """What other modules of the package use, beside the interface."""

    def test_by_squaring_keeps_the_order_of_the_terms(self):
        for k in range(40):
            self.assertEqual(by_squaring("", "ab", k, lambda x, y: x + y), "ab" * k)

    def test_power_within(self):
        for a in (2, 3, 7, 400):
            for k in range(8):
                for limit in (1, 8, 9, 400, 2000):
                    self.assertEqual(power_within(a, k, limit), a**k if a**k <= limit else None)
        self.assertIsNone(power_within(2, 10**100, 400))

    def test_digits(self):
        self.assertEqual(digits(0, 2, 3), (0, 0, 0))
        self.assertEqual(digits(5, 2, 4), (1, 0, 1, 0))
        self.assertEqual(digits(1234, 10, 4), (4, 3, 2, 1))
        self.assertEqual(digits(1234, 10, 2), (4, 3))
        self.assertEqual(digits(7, 3, 0), ())

    def test_prime_divisors(self):
        self.assertEqual(prime_divisors(1), ())
        self.assertEqual(prime_divisors(360), (2, 3, 5))
        self.assertEqual(prime_divisors(97), (97,))

    def test_least_exponent(self):
        for least in range(1, 40):
            for multiple in range(1, 40):
                self.assertEqual(least_exponent(least * multiple, lambda k: k % least == 0), least)


if __name__ == "__main__":
    unittest.main()

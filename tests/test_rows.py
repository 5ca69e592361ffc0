"""Point 2.1 and the interface of fieldmaps.rows."""

import unittest
from itertools import product

from fieldmaps.errors import ZeroDivisor
from fieldmaps.rows import (
    add_rows,
    common_row,
    divide_rows,
    is_irreducible_row,
    multiply_rows,
    power_row,
    subtract_rows,
    trimmed,
)
from tests.plain import (
    cut,
    is_irreducible_by_trial,
    monic_rows,
    product_of_rows,
    rest_by_monic,
    rows_below,
    sum_of_rows,
)

# Triples (p, a, b): every pair of small rows modulo 2 and 3, and some pairs modulo larger primes.
PAIRS = (
    [(2, a, b) for a, b in product(rows_below(2, 4), repeat=2)]
    + [(3, a, b) for a, b in product(rows_below(3, 3), repeat=2)]
    + [(p, a, b) for p in (5, 101, 397) for a, b in product(
        [(), (1,), (4,), (0, 1), (3, 2), (1, 0, 4), (4, 4, 4), (0, 0, 0, 2), (2, 3, 1, 4, 1)], repeat=2)]
)


class TestTrimmed(unittest.TestCase):
    def test_lists_and_tuples(self):
        for kind in (list, tuple):
            self.assertEqual(trimmed(kind([1, 2, 0, 3]), 5), (1, 2, 0, 3))
            self.assertIsInstance(trimmed(kind([1, 2]), 5), tuple)

    def test_zeros_at_the_end(self):
        self.assertEqual(trimmed([1, 0, 2, 0, 0], 3), (1, 0, 2))
        self.assertEqual(trimmed((0, 1), 2), (0, 1))
        self.assertEqual(trimmed((0, 0, 0), 7), ())
        self.assertEqual(trimmed((), 2), ())
        self.assertEqual(trimmed([], 397), ())

    def test_integers_beyond_the_prime(self):
        self.assertEqual(trimmed([5, -1, 7, 3, -3], 3), (2, 2, 1))
        self.assertEqual(trimmed([2, 4, -2], 2), ())
        self.assertEqual(trimmed([10**30, -(10**30)], 7), (10**30 % 7, -(10**30) % 7))
        self.assertEqual(trimmed([1, 397, 794], 397), (1,))

    def test_the_argument_stays(self):
        row = [5, -1, 0]
        trimmed(row, 3)
        self.assertEqual(row, [5, -1, 0])


class TestSums(unittest.TestCase):
    def test_sums(self):
        for p, a, b in PAIRS:
            self.assertEqual(add_rows(a, b, p), sum_of_rows(a, b, p), (p, a, b))

    def test_differences(self):
        for p, a, b in PAIRS:
            difference = subtract_rows(a, b, p)
            self.assertIsInstance(difference, tuple)
            self.assertEqual(sum_of_rows(difference, b, p), a, (p, a, b))
            self.assertEqual(difference, cut(difference))
            self.assertTrue(all(0 <= item < p for item in difference))

    def test_zeros_at_the_end_are_left_out(self):
        self.assertEqual(add_rows((1, 1, 1), (1, 1, 1), 2), ())
        self.assertEqual(add_rows((1, 2, 1), (0, 0, 2), 3), (1, 2))
        self.assertEqual(subtract_rows((1, 2, 3), (0, 2, 3), 5), (1,))
        self.assertEqual(subtract_rows((), (1, 2), 397), (396, 395))


class TestProducts(unittest.TestCase):
    def test_products(self):
        for p, a, b in PAIRS:
            self.assertEqual(multiply_rows(a, b, p), product_of_rows(a, b, p), (p, a, b))

    def test_examples(self):
        self.assertEqual(multiply_rows((1, 1), (1, 1), 2), (1, 0, 1))
        self.assertEqual(multiply_rows((1, 2), (), 3), ())
        self.assertEqual(multiply_rows((), (), 3), ())
        self.assertEqual(multiply_rows((396, 1), (1, 1), 397), (396, 0, 1))


class TestDivision(unittest.TestCase):
    def test_quotient_and_remainder(self):
        for p, a, b in PAIRS:
            if b:
                quotient, rest = divide_rows(a, b, p)
                self.assertLess(len(rest), len(b), (p, a, b))
                self.assertEqual(sum_of_rows(product_of_rows(quotient, b, p), rest, p), a, (p, a, b))
                for row in (quotient, rest):
                    self.assertEqual(row, cut(row))
                    self.assertTrue(all(0 <= item < p for item in row))

    def test_the_answer_is_a_pair_of_tuples(self):
        self.assertEqual(divide_rows((1, 0, 1), (1, 1), 2), ((1, 1), ()))
        self.assertEqual(divide_rows((1, 2), (1, 1, 2), 3), ((), (1, 2)))
        self.assertEqual(divide_rows((), (2,), 3), ((), ()))
        self.assertEqual(divide_rows((3, 5, 7), (2,), 11), ((7, 8, 9), ()))

    def test_the_empty_row_as_divisor(self):
        for a in ((), (1,), (1, 2, 1)):
            with self.assertRaises(ZeroDivisor):
                divide_rows(a, (), 3)


class TestCommonRow(unittest.TestCase):
    def test_both_empty(self):
        for p in (2, 3, 397):
            self.assertEqual(common_row((), (), p), ())

    def test_one_empty(self):
        self.assertEqual(common_row((2, 0, 2), (), 5), (1, 0, 1))
        self.assertEqual(common_row((), (2, 0, 2), 5), (1, 0, 1))
        self.assertEqual(common_row((), (3,), 5), (1,))

    def test_it_is_the_greatest_monic_divisor(self):
        for p, length in ((2, 4), (3, 3)):
            rows = rows_below(p, length)
            monic = [g for degree in range(length) for g in monic_rows(p, degree)]
            for a, b in product(rows, repeat=2):
                if a or b:
                    shared = [g for g in monic if not rest_by_monic(a, g, p) and not rest_by_monic(b, g, p)]
                    self.assertEqual(common_row(a, b, p), max(shared, key=len), (p, a, b))

    def test_larger_primes(self):
        for p in (101, 397):
            shared = (7, 3, 1)
            a = product_of_rows(shared, (5, 0, 2), p)
            b = product_of_rows(shared, (1, 9), p)
            self.assertEqual(rest_by_monic(common_row(a, b, p), shared, p), ())
            self.assertEqual(common_row(a, b, p)[-1], 1)
            self.assertEqual(common_row((1, 1), (2, 1), p), (1,))


class TestPowerRow(unittest.TestCase):
    def test_against_products(self):
        for p, m in ((2, (1, 1, 1)), (2, (0, 1)), (3, (2, 1, 0, 1)), (7, (3, 1)), (397, (5, 7, 1))):
            for a in [(), (1,), (0, 1), (1, 1), (1, 0, 1), (0, 1, 1, 1)]:
                power = (1,)
                for k in range(12):
                    self.assertEqual(power_row(a, k, m, p), power, (p, m, a, k))
                    power = rest_by_monic(product_of_rows(power, a, p), m, p)

    def test_exponent_zero(self):
        for a in ((), (1,), (0, 1), (1, 0, 0, 1)):
            self.assertEqual(power_row(a, 0, (1, 1), 2), (1,))
            self.assertEqual(power_row(a, 0, (2, 0, 2), 3), (1,))

    def test_a_modulus_that_is_not_monic(self):
        for k in range(8):
            self.assertEqual(power_row((1, 1), k, (3, 0, 3), 5), power_row((1, 1), k, (1, 0, 1), 5))

    def test_great_exponents(self):
        # The members other than zero of a field of q members have the power q - 1 one.
        self.assertEqual(power_row((0, 1), 10**20 * (2**8 - 1) + 1, (1, 1, 0, 1, 1, 0, 0, 0, 1), 2), (0, 1))
        self.assertEqual(power_row((5, 3), 397**2, (5, 0, 1), 397), (5, 3))
        self.assertEqual(power_row((3,), 10**40, (0, 1), 101), (pow(3, 10**40, 101),))


class TestIsIrreducibleRow(unittest.TestCase):
    def test_against_trial(self):
        for p, most in ((2, 8), (3, 5), (5, 3), (7, 3), (11, 2), (13, 2)):
            for degree in range(1, most + 1):
                for m in monic_rows(p, degree):
                    self.assertIs(is_irreducible_row(m, p), is_irreducible_by_trial(m, p), (p, m))

    def test_constants_and_zero(self):
        for p in (2, 3, 397):
            self.assertIs(is_irreducible_row((), p), False)
            self.assertIs(is_irreducible_row((1,), p), False)
            self.assertIs(is_irreducible_row((p - 1,), p), False)

    def test_leading_coefficients_other_than_one(self):
        for degree in (1, 2, 3, 4):
            for m in monic_rows(3, degree):
                double = tuple(2 * item % 3 for item in m)
                self.assertIs(is_irreducible_row(double, 3), is_irreducible_by_trial(m, 3), double)

    def test_large_primes(self):
        # -1 is a square modulo a prime exactly if the prime leaves 1 by 4.
        for p, irreducible in ((397, False), (389, False), (383, True), (379, True), (10007, True), (10009, False)):
            self.assertIs(is_irreducible_row((1, 0, 1), p), irreducible, p)
        self.assertIs(is_irreducible_row((396, 1), 397), True)

    def test_squares_and_products_without_roots(self):
        self.assertIs(is_irreducible_row((1, 0, 1, 0, 1), 2), False)
        self.assertIs(is_irreducible_row(product_of_rows((1, 1, 1), (1, 1, 0, 1), 2), 2), False)
        self.assertIs(is_irreducible_row(product_of_rows((1, 1, 0, 1), (1, 0, 1, 1), 2), 2), False)
        self.assertIs(is_irreducible_row((1, 1) + (0,) * 5 + (1,), 2), True)


if __name__ == "__main__":
    unittest.main()

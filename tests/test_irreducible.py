"""Points 3.1 and 3.2 and the interface of fieldmaps.irreducible."""

import unittest

from fieldmaps.errors import Refused
from fieldmaps.field import Field
from fieldmaps.irreducible import all_irreducible, count_irreducible, is_irreducible, least_irreducible
from fieldmaps.poly import Poly
from tests.plain import (
    F2,
    F3,
    F4,
    F5,
    F7,
    F8,
    F9,
    F16,
    F25,
    F49,
    F256,
    F397,
    is_irreducible_by_trial,
    monic_polys,
    monic_rows,
    multiplied,
    poly,
)

# Fields and the greatest degree up to which every monic polynomial is tried.
TRIED = ((F2, 7), (F3, 4), (F4, 4), (F5, 3), (F7, 2), (F8, 2), (F9, 2))


def has_divisor(f):
    """Whether a monic polynomial of degree 1 to half the degree divides f."""
    return any(
        (f % g).is_zero() for degree in range(1, f.degree() // 2 + 1) for g in monic_polys(f.field, degree)
    )


def irreducible_by_trial(field, degree):
    return [f for f in monic_polys(field, degree) if not has_divisor(f)]


class TestIsIrreducible(unittest.TestCase):
    def test_against_trial(self):
        for field, most in TRIED:
            for degree in range(1, most + 1):
                for f in monic_polys(field, degree):
                    self.assertIs(is_irreducible(f), not has_divisor(f), str(f))

    def test_constants_and_zero(self):
        for field in (F2, F4, F9, F397):
            self.assertIs(is_irreducible(Poly(field, ())), False)
            for number in (1, 2, field.q - 1):
                if number < field.q:
                    self.assertIs(is_irreducible(poly(field, number)), False)

    def test_leading_coefficients_other_than_one(self):
        for field, most in ((F3, 3), (F4, 3), (F5, 2), (F9, 2)):
            for degree in range(1, most + 1):
                for f in monic_polys(field, degree):
                    for number in (2, field.q - 1):
                        self.assertIs(is_irreducible(f.scaled(field.member(number))), not has_divisor(f), str(f))

    def test_every_degree_one(self):
        for field in (F9, F256, F397):
            for number in range(0, field.q, 7):
                self.assertIs(is_irreducible(poly(field, number, 1)), True)
                self.assertIs(is_irreducible(poly(field, number, field.q - 1)), True)

    def test_products_without_roots(self):
        two, three, four = poly(F2, 1, 1, 1), poly(F2, 1, 1, 0, 1), poly(F2, 1, 1, 0, 0, 1)
        for parts in ([two] * 2, [two, three], [three] * 2, [two, three, four], [four] * 2, [two] * 5, [four] * 3):
            self.assertIs(is_irreducible(multiplied(F2, parts)), False)

    def test_greater_degrees(self):
        # These are known as irreducible; with one more term each has the root 1.
        for exponents in ((0, 1, 15), (0, 3, 17), (0, 3, 20), (0, 1, 3, 4, 64)):
            numbers = [1 if k in exponents else 0 for k in range(exponents[-1] + 1)]
            self.assertIs(is_irreducible(poly(F2, *numbers)), True)
            numbers[2] = 1
            self.assertIs(is_irreducible(poly(F2, *numbers)), False)

    def test_over_larger_fields(self):
        # The field of four has a square root of every member, and one of its extensions by x^2 + x + c.
        self.assertIs(is_irreducible(poly(F4, 2, 1, 1)), True)
        self.assertIs(is_irreducible(poly(F4, 1, 1, 1)), False)
        self.assertIs(is_irreducible(poly(F16, 1, 1, 1)), False)
        self.assertIs(is_irreducible(poly(F397, 1, 0, 1)), False)
        self.assertIs(is_irreducible(poly(F397, 395, 0, 1)), pow(2, 198, 397) != 1)


class TestCounts(unittest.TestCase):
    def test_against_counting(self):
        for field, most in TRIED:
            for degree in range(1, most + 1):
                self.assertEqual(count_irreducible(field.q, degree), len(irreducible_by_trial(field, degree)))
        for p, degree in ((2, 8), (2, 9), (3, 5), (3, 6), (5, 4), (13, 2)):
            many = sum(is_irreducible_by_trial(m, p) for m in monic_rows(p, degree))
            self.assertEqual(count_irreducible(p, degree), many)

    def test_examples(self):
        self.assertEqual([count_irreducible(2, n) for n in range(1, 13)], [2, 1, 2, 3, 6, 9, 18, 30, 56, 99, 186, 335])
        self.assertEqual(count_irreducible(4, 1), 4)
        self.assertEqual(count_irreducible(400, 1), 400)
        self.assertEqual(count_irreducible(397, 2), 397 * 396 // 2)

    def test_the_members_of_all_degrees_that_divide(self):
        for q, n in ((2, 30), (3, 12), (256, 6), (10, 8)):
            total = sum(d * count_irreducible(q, d) for d in range(1, n + 1) if n % d == 0)
            self.assertEqual(total, q**n)


class TestLeast(unittest.TestCase):
    def test_against_trial(self):
        for field, most in TRIED:
            for degree in range(1, most + 1):
                self.assertEqual(least_irreducible(field, degree), irreducible_by_trial(field, degree)[0])

    def test_examples(self):
        self.assertEqual(least_irreducible(F2, 1), poly(F2, 0, 1))
        self.assertEqual(least_irreducible(F397, 1), poly(F397, 0, 1))
        self.assertEqual(least_irreducible(F2, 8), poly(F2, 1, 1, 0, 1, 1, 0, 0, 0, 1))
        self.assertEqual(least_irreducible(F2, 10), poly(F2, 1, 0, 0, 1, 0, 0, 0, 0, 0, 0, 1))
        self.assertEqual(least_irreducible(F4, 2), poly(F4, 2, 1, 1))

    def test_beyond_what_all_irreducible_goes_through(self):
        for field, n in ((F256, 2), (F397, 2), (F49, 3), (F2, 20)):
            f = least_irreducible(field, n)
            self.assertEqual((f.degree(), f.leading()), (n, field.one()))
            self.assertTrue(is_irreducible(f))


class TestAll(unittest.TestCase):
    def test_against_trial(self):
        for field, most in TRIED:
            for degree in range(1, most + 1):
                found = all_irreducible(field, degree)
                self.assertIsInstance(found, tuple)
                self.assertEqual(list(found), irreducible_by_trial(field, degree))

    def test_order(self):
        # Of the sizes up to 2000 that occur, 43^2 is the greatest one; 2^11 is the first one beyond.
        for field, n in ((F2, 10), (F3, 6), (F4, 5), (F25, 2), (F397, 1), (Field(43), 2)):
            found = all_irreducible(field, n)
            keys = [f.key() for f in found]
            self.assertEqual(keys, sorted(set(keys)))
            self.assertEqual(len(found), count_irreducible(field.q, n))

    def test_examples(self):
        self.assertEqual(all_irreducible(F2, 1), (poly(F2, 0, 1), poly(F2, 1, 1)))
        self.assertEqual(all_irreducible(F2, 3), (poly(F2, 1, 1, 0, 1), poly(F2, 1, 0, 1, 1)))
        self.assertEqual(all_irreducible(F4, 2)[:2], (poly(F4, 2, 1, 1), poly(F4, 3, 1, 1)))

    def test_large(self):
        for field, n in ((F2, 11), (F3, 7), (F4, 6), (F5, 5), (F7, 4), (F49, 2), (F397, 2), (F2, 10**9), (F397, 10**6)):
            with self.assertRaises(Refused, msg=(field.q, n)) as caught:
                all_irreducible(field, n)
            self.assertEqual(caught.exception.reason, "large")


if __name__ == "__main__":
    unittest.main()

"""Points 4.4 to 4.6 and the interface of fieldmaps.conjugates."""

import unittest
from itertools import product

from fieldmaps.conjugates import (
    conjugates,
    is_normal,
    least_normal,
    least_polynomial,
    least_row,
    norm,
    normal_members,
    trace,
)
from fieldmaps.errors import Refused
from fieldmaps.field import Field
from fieldmaps.poly import Poly
from tests.plain import (
    F2,
    F3,
    F4,
    F5,
    F7,
    F8,
    F9,
    F16,
    F25,
    F27,
    F49,
    F64,
    F81,
    F256,
    F397,
    divisors_of,
    no_degrees,
    walked_power,
)

FIELDS = (F2, F3, F4, F5, F7, F8, F9, F16, F25, F27, F49, F64, F81)
OTHER16 = Field(2, (1, 1, 0, 0, 1))
WITH_DEGREE = (conjugates, least_polynomial, trace, norm)


def walked_conjugates(field, a, d):
    """a and its powers p^d, p^(2 d), .., by products, up to the one before a comes again."""
    found = [a]
    power = walked_power(field, a, field.p**d)
    while power != a:
        found.append(power)
        power = walked_power(field, power, field.p**d)
    return found


def all_powers(field, a, d):
    """The n / d powers p^(d k) of a, by products."""
    powers = [a]
    while len(powers) < field.n // d:
        powers.append(walked_power(field, powers[-1], field.p**d))
    return powers


def members_fixed(field, d):
    return [a for a in field.members() if walked_power(field, a, field.p**d) == a]


def least_degree(field, a, scalars):
    """The least k for which a^k is a sum of multiples, by the scalars, of the powers below: all sums are tried."""
    sums = {field.zero()}
    power = field.one()
    k = 0
    while power not in sums:
        multiples = [field.multiply(scalar, power) for scalar in scalars]
        sums = {field.add(x, y) for x in sums for y in multiples}
        power = field.multiply(power, a)
        k += 1
    return k


def cases():
    """Every field with every divisor of its degree."""
    return [(field, d) for field in FIELDS for d in divisors_of(field.n)]


class TestConjugates(unittest.TestCase):
    def test_every_member_in_order(self):
        for field, d in cases():
            for a in field.members():
                found = conjugates(field, a, d)
                self.assertIsInstance(found, tuple)
                self.assertEqual(list(found), walked_conjugates(field, a, d))

    def test_each_once_and_as_many_as_a_divisor(self):
        for field, d in cases():
            for a in field.members():
                found = conjugates(field, a, d)
                self.assertEqual(len(set(found)), len(found))
                self.assertEqual(field.n // d % len(found), 0)

    def test_the_default_degree_is_one(self):
        for a in F64.members():
            self.assertEqual(conjugates(F64, a), conjugates(F64, a, 1))

    def test_zero_one_and_the_whole_field(self):
        for field, d in cases():
            self.assertEqual(conjugates(field, field.zero(), d), (field.zero(),))
            self.assertEqual(conjugates(field, field.one(), d), (field.one(),))
            for a in field.members():
                self.assertEqual(conjugates(field, a, field.n), (a,))

    def test_examples(self):
        self.assertEqual(conjugates(F4, (0, 1)), ((0, 1), (1, 1)))
        self.assertEqual(conjugates(F4, (1, 1)), ((1, 1), (0, 1)))
        self.assertEqual(conjugates(F9, (1, 1)), ((1, 1), (1, 2)))
        self.assertEqual(len(conjugates(F256, F256.generator())), 8)
        self.assertEqual(len(conjugates(F256, F256.generator(), 2)), 4)


class TestLeastPolynomial(unittest.TestCase):
    def test_it_is_monic_over_the_field_and_as_long_as_the_conjugates(self):
        for field, d in cases():
            for a in field.members():
                f = least_polynomial(field, a, d)
                self.assertIsInstance(f, Poly)
                self.assertEqual(f.field, field)
                self.assertEqual(f.leading(), field.one())
                self.assertEqual(f.degree(), len(walked_conjugates(field, a, d)))

    def test_its_roots_are_the_conjugates(self):
        for field, d in cases():
            for a in field.members():
                f = least_polynomial(field, a, d)
                roots = [b for b in field.members() if f(b) == field.zero()]
                self.assertEqual(sorted(roots), sorted(walked_conjugates(field, a, d)))

    def test_its_coefficients_are_in_the_subfield(self):
        for field, d in cases():
            scalars = members_fixed(field, d)
            for a in field.members():
                for item in least_polynomial(field, a, d).row:
                    self.assertIn(item, scalars)

    def test_no_polynomial_of_a_lower_degree_has_the_root(self):
        for field, d in cases():
            scalars = members_fixed(field, d)
            for a in field.members():
                self.assertEqual(least_polynomial(field, a, d).degree(), least_degree(field, a, scalars))

    def test_zero_one_and_the_whole_field(self):
        for field, d in cases():
            one = field.one()
            self.assertEqual(least_polynomial(field, field.zero(), d).row, (field.zero(), one))
            self.assertEqual(least_polynomial(field, one, d).row, (field.negative(one), one))
            for a in field.members():
                self.assertEqual(least_polynomial(field, a, field.n).row, (field.negative(a), one))

    def test_that_of_the_generator_is_the_modulus(self):
        for field in (*FIELDS, F256, F397, OTHER16):
            f = least_polynomial(field, field.generator())
            self.assertEqual(f.row, tuple(field.integer(item) for item in field.modulus))


class TestTraceAndNorm(unittest.TestCase):
    def test_sums_and_products_of_the_powers(self):
        for field, d in cases():
            for a in field.members():
                total, times = field.zero(), field.one()
                for power in all_powers(field, a, d):
                    total, times = field.add(total, power), field.multiply(times, power)
                self.assertEqual(trace(field, a, d), total)
                self.assertEqual(norm(field, a, d), times)

    def test_they_lie_in_the_subfield(self):
        for field, d in cases():
            scalars = members_fixed(field, d)
            for a in field.members():
                self.assertIn(trace(field, a, d), scalars)
                self.assertIn(norm(field, a, d), scalars)

    def test_of_sums_and_products(self):
        for field in (F4, F8, F9, F16, F25):
            for d in divisors_of(field.n):
                for a, b in product(field.members(), repeat=2):
                    sum_of_traces = field.add(trace(field, a, d), trace(field, b, d))
                    self.assertEqual(trace(field, field.add(a, b), d), sum_of_traces)
                    product_of_norms = field.multiply(norm(field, a, d), norm(field, b, d))
                    self.assertEqual(norm(field, field.multiply(a, b), d), product_of_norms)

    def test_multiples_by_members_of_the_subfield(self):
        for field in (F9, F16, F64):
            for d in divisors_of(field.n):
                for c, a in product(members_fixed(field, d), field.members()):
                    multiple = field.multiply(c, trace(field, a, d))
                    self.assertEqual(trace(field, field.multiply(c, a), d), multiple)

    def test_of_members_of_the_subfield(self):
        for field, d in cases():
            for a in members_fixed(field, d):
                self.assertEqual(trace(field, a, d), field.multiply(field.integer(field.n // d), a))
                self.assertEqual(norm(field, a, d), walked_power(field, a, field.n // d))

    def test_over_the_whole_field(self):
        for field in FIELDS:
            for a in field.members():
                self.assertEqual(trace(field, a, field.n), a)
                self.assertEqual(norm(field, a, field.n), a)

    def test_the_default_degree_is_one(self):
        for a in F16.members():
            self.assertEqual(trace(F16, a), trace(F16, a, 1))
            self.assertEqual(norm(F16, a), norm(F16, a, 1))

    def test_examples(self):
        self.assertEqual(trace(F9, (1, 1)), (2, 0))
        self.assertEqual(norm(F9, (1, 1)), (2, 0))
        self.assertEqual(trace(F4, (1, 0)), (0, 0))
        self.assertEqual(norm(F4, (0, 0)), (0, 0))


class TestDegreesThatAreNone(unittest.TestCase):
    def test_refused(self):
        for function, field in product(WITH_DEGREE, (F2, F4, F16, F27, F64, F397)):
            for d in no_degrees(field.n):
                for a in (field.zero(), field.one(), field.generator()):
                    with self.assertRaises(Refused, msg=d) as caught:
                        function(field, a, d)
                    self.assertEqual(caught.exception.reason, "degree")


class TestLeastRow(unittest.TestCase):
    def test_integers_of_the_least_polynomial(self):
        for field in (*FIELDS, F256, F397):
            for a in field.members():
                row = least_row(field, a)
                self.assertIsInstance(row, tuple)
                self.assertTrue(all(type(item) is int and 0 <= item < field.p for item in row))
                polynomial = Poly(field, [field.integer(item) for item in row])
                self.assertEqual(polynomial, least_polynomial(field, a, 1))

    def test_the_degree_one(self):
        for field in (F2, F3, F5, F7, F397):
            for (number,) in field.members():
                self.assertEqual(least_row(field, (number,)), (-number % field.p, 1))

    def test_members_of_subfields(self):
        self.assertEqual(least_row(F16, (0, 0, 0, 0)), (0, 1))
        self.assertEqual(least_row(F16, (1, 0, 0, 0)), (1, 1))
        for a in members_fixed(F16, 2):
            if a not in members_fixed(F16, 1):
                self.assertEqual(least_row(F16, a), (1, 1, 1))
        lengths = sorted({len(least_row(F64, a)) for a in F64.members()})
        self.assertEqual(lengths, [2, 3, 4, 7])

    def test_examples(self):
        self.assertEqual(least_row(F9, (1, 1)), (2, 1, 1))
        self.assertEqual(least_row(F9, (0, 1)), (1, 0, 1))
        self.assertEqual(least_row(F16, F16.generator()), (1, 1, 1, 1, 1))


def is_normal_by_combinations(field, a):
    """Whether no combination of the powers p^k, but that with zeros alone, is zero: all are tried."""
    powers = all_powers(field, a, 1)
    for multiples in product(range(field.p), repeat=field.n):
        total = field.zero()
        for multiple, power in zip(multiples, powers):
            total = field.add(total, field.multiply(field.integer(multiple), power))
        if total == field.zero() and any(multiples):
            return False
    return True


class TestNormal(unittest.TestCase):
    def test_against_all_combinations(self):
        for field in (*FIELDS, OTHER16):
            for a in field.members():
                self.assertIs(is_normal(field, a), is_normal_by_combinations(field, a), (field.q, a))

    def test_the_degree_one(self):
        for field in (F2, F3, F5, F7, F397):
            for a in field.members():
                self.assertIs(is_normal(field, a), a != field.zero())
            self.assertEqual(least_normal(field), field.one())
            self.assertEqual(normal_members(field), tuple(field.members())[1:])

    def test_all_of_them_and_the_least_one(self):
        for field in FIELDS:
            expected = [a for a in field.members() if is_normal_by_combinations(field, a)]
            found = normal_members(field)
            self.assertIsInstance(found, tuple)
            self.assertEqual(list(found), expected)
            self.assertEqual(least_normal(field), expected[0])

    def test_examples(self):
        self.assertEqual(normal_members(F4), ((0, 1), (1, 1)))
        self.assertEqual(normal_members(F9), ((1, 1), (2, 1), (1, 2), (2, 2)))
        self.assertEqual(least_normal(F9), (1, 1))
        self.assertEqual(len(normal_members(F256)), 128)


if __name__ == "__main__":
    unittest.main()

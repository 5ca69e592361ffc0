"""Point 4.3 and the interface of fieldmaps.subfields."""

import unittest
from itertools import product

from fieldmaps.errors import Refused
from fieldmaps.field import Field
from fieldmaps.subfields import common_degree, degree_of, is_in_subfield, least_of_degree, subfield
from tests.plain import (
    F2,
    F3,
    F4,
    F5,
    F8,
    F9,
    F16,
    F25,
    F27,
    F49,
    F64,
    F81,
    F256,
    F343,
    F361,
    F397,
    divisors_of,
    no_degrees,
)

F128 = Field(2, (1, 1, 0, 0, 0, 0, 0, 1))
F243 = Field(3, (1, 2, 0, 0, 0, 1))
FIELDS = (F2, F3, F4, F5, F8, F9, F16, F25, F27, F49, F64, F81, F128, F243, F256, F343, F361, F397)


def fixed_by_powers(field, d):
    """The members with the power p^d the member, by products one after the other."""
    found = []
    for a in field.members():
        power = a
        for _ in range(d):
            start, times = power, field.p - 1
            for _ in range(times):
                power = field.multiply(power, start)
        if power == a:
            found.append(a)
    return found


def degree_by_linear_dependence(field, a):
    """The least d for which a^d is a sum of multiples, by integers, of the powers below: all sums are tried."""
    sums = {field.zero()}
    power = field.one()
    d = 0
    while power not in sums:
        multiples = [field.multiply(field.integer(k), power) for k in range(field.p)]
        sums = {field.add(x, y) for x in sums for y in multiples}
        power = field.multiply(power, a)
        d += 1
    return d


class TestSubfield(unittest.TestCase):
    def test_members(self):
        for field in FIELDS:
            for d in divisors_of(field.n):
                found = subfield(field, d)
                self.assertIsInstance(found, tuple)
                self.assertEqual(list(found), fixed_by_powers(field, d))
                self.assertEqual(len(found), field.p**d)

    def test_ascending(self):
        for field in FIELDS:
            for d in divisors_of(field.n):
                numbers = [field.number(a) for a in subfield(field, d)]
                self.assertEqual(numbers, sorted(set(numbers)))

    def test_closed_under_sums_products_and_inverses(self):
        for field in (F16, F64, F81, F256):
            for d in divisors_of(field.n):
                if d < field.n:
                    found = subfield(field, d)
                    for a, b in product(found, repeat=2):
                        self.assertIn(field.add(a, b), found)
                        self.assertIn(field.multiply(a, b), found)
                    for a in found[1:]:
                        self.assertIn(field.inverse(a), found)

    def test_examples(self):
        self.assertEqual(subfield(F16, 1), ((0, 0, 0, 0), (1, 0, 0, 0)))
        self.assertEqual(subfield(F9, 1), ((0, 0), (1, 0), (2, 0)))
        self.assertEqual(subfield(F9, 2), tuple(F9.members()))
        self.assertEqual(len(subfield(F397, 1)), 397)

    def test_no_degrees(self):
        for field in (F2, F4, F16, F27, F64, F397):
            for d in no_degrees(field.n):
                with self.assertRaises(Refused, msg=d) as caught:
                    subfield(field, d)
                self.assertEqual(caught.exception.reason, "degree")


class TestIsInSubfield(unittest.TestCase):
    def test_every_member(self):
        for field in FIELDS:
            for d in divisors_of(field.n):
                found = fixed_by_powers(field, d)
                for a in field.members():
                    self.assertIs(is_in_subfield(field, a, d), a in found)

    def test_no_degrees(self):
        for field in (F2, F4, F16, F27, F64):
            for d in no_degrees(field.n):
                for a in (field.zero(), field.generator()):
                    with self.assertRaises(Refused, msg=d) as caught:
                        is_in_subfield(field, a, d)
                    self.assertEqual(caught.exception.reason, "degree")


class TestDegreeOf(unittest.TestCase):
    def test_against_linear_dependence(self):
        for field in FIELDS:
            for a in field.members():
                self.assertEqual(degree_of(field, a), degree_by_linear_dependence(field, a), (field.q, a))

    def test_examples(self):
        self.assertEqual(degree_of(F16, F16.zero()), 1)
        self.assertEqual(degree_of(F16, F16.one()), 1)
        self.assertEqual(degree_of(F16, F16.generator()), 4)
        self.assertEqual(degree_of(F397, (5,)), 1)
        self.assertEqual(sorted({degree_of(F64, a) for a in F64.members()}), [1, 2, 3, 6])

    def test_subfields_are_those_of_the_degrees_that_divide(self):
        for field in (F16, F64, F81):
            for d in divisors_of(field.n):
                for a in field.members():
                    self.assertEqual(d % degree_of(field, a) == 0, is_in_subfield(field, a, d))


class TestCommonDegree(unittest.TestCase):
    def test_no_members(self):
        for field in FIELDS:
            self.assertEqual(common_degree(field, []), 1)
            self.assertEqual(common_degree(field, ()), 1)

    def test_one_member(self):
        for field in (F4, F16, F64, F81):
            for a in field.members():
                self.assertEqual(common_degree(field, [a]), degree_of(field, a))
                self.assertEqual(common_degree(field, (a,)), degree_of(field, a))

    def test_two_members(self):
        for field in (F9, F16, F64):
            for a, b in product(field.members(), repeat=2):
                holding = [d for d in divisors_of(field.n)
                           if is_in_subfield(field, a, d) and is_in_subfield(field, b, d)]
                self.assertEqual(common_degree(field, [a, b]), holding[0])

    def test_the_least_subfield_may_be_larger_than_those_of_the_members(self):
        two, three = least_of_degree(F64, 2), least_of_degree(F64, 3)
        self.assertEqual(common_degree(F64, [two, three]), 6)
        self.assertEqual(common_degree(F64, (two, F64.one(), two)), 2)
        self.assertEqual(common_degree(F64, (F64.zero(), three, F64.one(), three)), 3)

    def test_the_list_stays(self):
        members = [F64.generator(), F64.one()]
        common_degree(F64, members)
        self.assertEqual(members, [F64.generator(), F64.one()])


class TestLeastOfDegree(unittest.TestCase):
    def test_the_first_one(self):
        for field in FIELDS:
            for d in divisors_of(field.n):
                found = [a for a in field.members() if degree_by_linear_dependence(field, a) == d]
                self.assertEqual(least_of_degree(field, d), found[0])

    def test_examples(self):
        self.assertEqual(least_of_degree(F9, 1), (0, 0))
        self.assertEqual(least_of_degree(F9, 2), (0, 1))
        self.assertEqual(least_of_degree(F397, 1), (0,))

    def test_no_degrees(self):
        for field in (F2, F4, F16, F27, F64):
            for d in no_degrees(field.n):
                with self.assertRaises(Refused, msg=d) as caught:
                    least_of_degree(field, d)
                self.assertEqual(caught.exception.reason, "degree")


if __name__ == "__main__":
    unittest.main()

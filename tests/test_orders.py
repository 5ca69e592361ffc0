"""Points 5.1 to 5.4 and the interface of fieldmaps.orders."""

import unittest
from itertools import product
from math import gcd

from fieldmaps.errors import Refused
from fieldmaps.orders import (
    all_primitive,
    is_power,
    is_primitive,
    least_primitive,
    logarithm,
    members_of_order,
    order_of,
    roots_of,
    roots_of_unity,
    square_root,
)
from tests.plain import (
    F2,
    F3,
    F4,
    F5,
    F7,
    F8,
    F9,
    F16,
    F25,
    F27,
    F256,
    F343,
    F361,
    F397,
    divisors_of,
    walked_power,
    walked_powers,
)

FIELDS = (F2, F3, F4, F5, F7, F8, F9, F16, F25, F27)


def others(field):
    """The members other than zero."""
    return list(field.members())[1:]


def coprime_numbers(n):
    return [k for k in range(1, n + 1) if gcd(k, n) == 1]


def great_exponents(field):
    """Exponents beyond q - 1, multiples of p among them."""
    return [field.q - 1, field.q, 2 * field.q, field.p, 6 * field.p, 3 * (field.q - 1) + 2]


class TestOrderOf(unittest.TestCase):
    def test_against_walking_all_powers(self):
        for field in (*FIELDS, F256, F397):
            for a in others(field):
                self.assertEqual(order_of(field, a), len(walked_powers(field, a)), (field.q, a))

    def test_it_divides_the_number_of_members_but_zero(self):
        for field in (F343, F361):
            for a in others(field):
                self.assertEqual((field.q - 1) % order_of(field, a), 0)

    def test_examples(self):
        self.assertEqual(order_of(F2, (1,)), 1)
        self.assertEqual([order_of(F7, (k,)) for k in range(1, 7)], [1, 3, 6, 3, 6, 2])
        self.assertEqual(order_of(F16, F16.generator()), 5)

    def test_zero(self):
        for field in (*FIELDS, F397):
            for function in (order_of, is_primitive):
                with self.assertRaises(Refused) as caught:
                    function(field, field.zero())
                self.assertEqual(caught.exception.reason, "zero")


class TestPrimitive(unittest.TestCase):
    def test_every_member(self):
        for field in FIELDS:
            for a in others(field):
                self.assertIs(is_primitive(field, a), len(walked_powers(field, a)) == field.q - 1)

    def test_all_and_the_least(self):
        for field in (*FIELDS, F256, F397):
            expected = [a for a in others(field) if len(walked_powers(field, a)) == field.q - 1]
            found = all_primitive(field)
            self.assertIsInstance(found, tuple)
            self.assertEqual(list(found), expected)
            self.assertEqual(least_primitive(field), expected[0])
            self.assertEqual(len(found), len(coprime_numbers(field.q - 1)))

    def test_the_field_of_two_members(self):
        self.assertEqual(all_primitive(F2), ((1,),))
        self.assertEqual(least_primitive(F2), (1,))
        self.assertIs(is_primitive(F2, (1,)), True)

    def test_examples(self):
        self.assertEqual(all_primitive(F7), ((3,), (5,)))
        self.assertEqual(least_primitive(F9), (1, 1))


class TestMembersOfOrder(unittest.TestCase):
    def test_every_order(self):
        for field in FIELDS:
            orders = {a: len(walked_powers(field, a)) for a in others(field)}
            for k in range(1, field.q + 3):
                found = members_of_order(field, k)
                self.assertIsInstance(found, tuple)
                self.assertEqual(list(found), [a for a in others(field) if orders[a] == k])

    def test_how_many(self):
        for field in (*FIELDS, F256, F397):
            for k in divisors_of(field.q - 1):
                self.assertEqual(len(members_of_order(field, k)), len(coprime_numbers(k)))

    def test_no_divisor_and_beyond(self):
        self.assertEqual(members_of_order(F7, 4), ())
        self.assertEqual(members_of_order(F7, 5), ())
        for field in FIELDS:
            for k in (field.q, 2 * field.q, 10**30):
                self.assertEqual(members_of_order(field, k), ())

    def test_the_order_one(self):
        for field in FIELDS:
            self.assertEqual(members_of_order(field, 1), (field.one(),))


class TestLogarithm(unittest.TestCase):
    def test_against_walking_all_powers(self):
        for field in FIELDS:
            for b in others(field):
                powers = walked_powers(field, b)
                for a in others(field):
                    expected = powers.index(a) if a in powers else None
                    self.assertEqual(logarithm(field, b, a), expected, (field.q, b, a))

    def test_large_fields(self):
        for field in (F256, F343, F361, F397):
            for b in (least_primitive(field), walked_power(field, least_primitive(field), 3)):
                powers = walked_powers(field, b)
                for a in others(field):
                    self.assertEqual(logarithm(field, b, a), powers.index(a) if a in powers else None)

    def test_of_one_and_by_one(self):
        for field in FIELDS:
            one = field.one()
            for a in others(field):
                self.assertEqual(logarithm(field, a, one), 0)
                self.assertEqual(logarithm(field, one, a), 0 if a == one else None)

    def test_there_is_one_if_the_order_divides(self):
        for a, b in product(others(F25), repeat=2):
            divides = len(walked_powers(F25, b)) % len(walked_powers(F25, a)) == 0
            self.assertEqual(logarithm(F25, b, a) is not None, divides)

    def test_zero_in_either_place(self):
        for field in FIELDS:
            zero = field.zero()
            for b, a in ((zero, field.one()), (field.one(), zero), (zero, zero), (zero, field.member(field.q - 1))):
                with self.assertRaises(Refused) as caught:
                    logarithm(field, b, a)
                self.assertEqual(caught.exception.reason, "zero")

    def test_examples(self):
        self.assertEqual(logarithm(F7, (3,), (6,)), 3)
        self.assertIsNone(logarithm(F7, (2,), (3,)))


class TestRoots(unittest.TestCase):
    def test_against_walking_all_powers(self):
        for field in FIELDS:
            for k in (*range(1, field.q + 2), *great_exponents(field)):
                powers = [(b, walked_power(field, b, k)) for b in field.members()]
                for a in field.members():
                    expected = tuple(b for b, power in powers if power == a)
                    self.assertEqual(roots_of(field, a, k), expected)
                    self.assertIs(is_power(field, a, k), len(expected) > 0)

    def test_how_many(self):
        for field in FIELDS:
            for k in range(1, field.q + 2):
                for a in others(field):
                    self.assertIn(len(roots_of(field, a, k)), (0, gcd(k, field.q - 1)))

    def test_zero(self):
        for field in (*FIELDS, F397):
            for k in (1, 2, field.p, field.q - 1, field.q, 10**30):
                self.assertEqual(roots_of(field, field.zero(), k), (field.zero(),))
                self.assertIs(is_power(field, field.zero(), k), True)

    def test_powers_of_p_give_one_root(self):
        for field in FIELDS:
            for a in field.members():
                self.assertEqual(len(roots_of(field, a, field.p)), 1)

    def test_great_exponents(self):
        for a in F16.members():
            self.assertEqual(roots_of(F16, a, 15 * 10**30 + 2), roots_of(F16, a, 2))
            self.assertEqual(roots_of(F16, a, 15 * 10**30 + 3), roots_of(F16, a, 3))

    def test_examples(self):
        self.assertEqual(roots_of(F7, (1,), 3), ((1,), (2,), (4,)))
        self.assertEqual(roots_of(F7, (3,), 2), ())
        self.assertIs(is_power(F7, (3,), 2), False)
        self.assertIs(is_power(F7, (2,), 2), True)


class TestRootsOfUnity(unittest.TestCase):
    def test_against_walking_all_powers(self):
        for field in FIELDS:
            for k in (*range(1, field.q + 2), *great_exponents(field)):
                expected = [b for b in field.members() if walked_power(field, b, k) == field.one()]
                found = roots_of_unity(field, k)
                self.assertIsInstance(found, tuple)
                self.assertEqual(list(found), expected)
                self.assertEqual(len(found), gcd(k, field.q - 1))

    def test_roots_are_products_with_them(self):
        for a, k in product(others(F25), (2, 3, 4, 6, 8)):
            found = roots_of(F25, a, k)
            for b in found:
                products = {F25.multiply(b, c) for c in roots_of_unity(F25, k)}
                self.assertEqual(products, set(found))


class TestSquareRoot(unittest.TestCase):
    def test_every_member(self):
        for field in (*FIELDS, F256, F397):
            for a in field.members():
                expected = [b for b in field.members() if field.multiply(b, b) == a]
                self.assertEqual(square_root(field, a), expected[0] if expected else None)

    def test_zero_and_one(self):
        for field in FIELDS:
            self.assertEqual(square_root(field, field.zero()), field.zero())
            self.assertEqual(square_root(field, field.one()), field.one())

    def test_with_p_two_every_member_has_one(self):
        for field in (F2, F4, F8, F16, F256):
            self.assertNotIn(None, [square_root(field, a) for a in field.members()])

    def test_examples(self):
        self.assertEqual(square_root(F7, (2,)), (3,))
        self.assertIsNone(square_root(F7, (3,)))
        self.assertEqual(square_root(F9, (2, 0)), (0, 1))


if __name__ == "__main__":
    unittest.main()

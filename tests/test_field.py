"""Points 2.1, 2.2, 2.3 and 2.6 and the interface of fieldmaps.field."""

import inspect
import unittest
from itertools import product

from fieldmaps.errors import Malformed, NoText, Refused, ZeroDivisor
from fieldmaps.field import Field
from fieldmaps.linear import determinant, solve
from fieldmaps.poly import variable
from tests.plain import (
    F2,
    F3,
    F4,
    F5,
    F7,
    F9,
    F16,
    F27,
    F81,
    F256,
    F361,
    F397,
    LARGE,
    MIDDLE,
    ODD_VALUES,
    SMALL,
    all_members,
    is_irreducible_by_trial,
    member_product,
    member_sum,
    monic_rows,
)

ALL = (*SMALL, *MIDDLE, F81, *LARGE)


def sample(field, most):
    """About so many members of the field, the first ones, the last one and some between."""
    step = max(1, field.q // most)
    members = all_members(field.p, field.n)
    return [*members[:3], *members[3::step], members[-1]]


def text_of(a):
    """The text of a member by point 2.3."""
    terms = []
    for k, coefficient in reversed(list(enumerate(a))):
        if coefficient != 0:
            power = "" if k == 0 else "t" if k == 1 else "t^" + str(k)
            if power == "":
                terms.append(str(coefficient))
            elif coefficient == 1:
                terms.append(power)
            else:
                terms.append(str(coefficient) + "*" + power)
    return "+".join(terms) or "0"


class TestMaking(unittest.TestCase):
    def malformed(self, *arguments):
        with self.assertRaises(Malformed, msg=arguments):
            Field(*arguments)

    def large(self, *arguments):
        with self.assertRaises(Refused, msg=arguments) as caught:
            Field(*arguments)
        self.assertEqual(caught.exception.reason, "large")

    def test_p_is_no_prime_number(self):
        for p in (0, 1, -1, -2, -3, 4, 6, 9, 15, 391, 399, 403, 10**6):
            self.malformed(p)
            self.malformed(p, (0, 1))

    def test_p_is_no_integer(self):
        for p in (None, True, False, "2", "", (), (2,), [3], [], F2):
            self.malformed(p)
            self.malformed(p, (1, 1))

    def test_the_modulus_is_no_tuple_or_list(self):
        for modulus in (None, True, False, 0, 1, 5, "", "01", "11", F2):
            self.malformed(2, modulus)

    def test_an_item_is_no_integer_from_0_to_p_less_1(self):
        for item in (-1, 3, 4, 10**20, -(10**20), True, False, None, "", "1", "0", (), (1,), [0], F3):
            self.malformed(3, (item, 1))
            self.malformed(3, [1, item, 1])
            self.malformed(3, (1, 0, item))

    def test_the_degree_is_not_positive(self):
        for p in (2, 397):
            self.malformed(p, ())
            self.malformed(p, [])
            self.malformed(p, (1,))
            self.malformed(p, (0,))

    def test_the_last_item_is_not_one(self):
        self.malformed(3, (1, 2))
        self.malformed(3, (1, 0, 2))
        self.malformed(2, (1, 1, 1, 0))
        self.malformed(2, (0, 0))
        self.malformed(3, (0, 1, 0))

    def test_the_modulus_is_not_irreducible(self):
        self.malformed(2, (1, 0, 1))
        self.malformed(2, (0, 1, 1))
        self.malformed(2, (1, 0, 1, 0, 1))
        self.malformed(3, (2, 0, 1))
        self.malformed(19, (18, 0, 1))
        self.malformed(2, (0,) * 8 + (1,))

    def test_which_moduli_are_irreducible(self):
        for p, degree in ((2, 2), (2, 3), (2, 4), (2, 5), (3, 2), (3, 3), (5, 2), (7, 2)):
            for modulus in monic_rows(p, degree):
                if is_irreducible_by_trial(modulus, p):
                    self.assertEqual(Field(p, modulus).q, p**degree)
                else:
                    self.malformed(p, modulus)

    def test_all_moduli_of_degree_one(self):
        for p in (2, 3, 5, 397):
            for k in (0, 1, p // 2, p - 1):
                self.assertEqual(Field(p, (k, 1)).modulus, (k, 1))

    def test_large(self):
        self.large(401)
        self.large(409, (1, 1))
        self.large(1000003)
        self.large(23, (1, 0, 1))
        self.large(2, (1, 0, 0, 0, 1, 0, 0, 0, 0, 1))
        self.large(3, (2, 1, 0, 0, 0, 0, 1))
        self.large(11, [4, 9, 0, 1])
        self.large(2, (1,) * 3000)

    def test_the_greatest_sizes(self):
        self.assertEqual([field.q for field in LARGE], [256, 343, 361, 397])
        self.assertEqual(Field(2, [1, 1, 0, 1, 1, 0, 0, 0, 1]).q, 256)

    def test_malformed_ahead_of_large(self):
        self.malformed(403, (1, 1))
        self.malformed(400)
        self.malformed(True, (1,) * 20)
        self.malformed(401, "01")
        self.malformed(401, None)
        self.malformed(401, (401, 1))
        self.malformed(401, (True, 1))
        self.malformed(401, (0, 2))
        self.malformed(401, (1,))
        self.malformed(401, ())
        self.malformed(2, (0,) * 20)
        self.malformed(2, (2,) + (0,) * 20 + (1,))
        self.malformed(2, (0,) * 20 + (1, 0))

    def test_large_ahead_of_irreducible(self):
        self.large(2, (0,) * 9 + (1,))
        self.large(3, (0, 0, 0, 0, 0, 0, 1))
        self.large(23, (0, 0, 1))
        self.large(401, (0, 0, 1))

    def test_attributes(self):
        self.assertEqual((F9.p, F9.modulus, F9.n, F9.q), (3, (1, 0, 1), 2, 9))
        self.assertEqual((F256.p, F256.n, F256.q), (2, 8, 256))
        self.assertEqual((F397.p, F397.modulus, F397.n, F397.q), (397, (396, 1), 1, 397))
        self.assertEqual((F5.modulus, F5.n, F5.q), ((0, 1), 1, 5))

    def test_a_list_as_modulus(self):
        modulus = [1, 1, 1]
        field = Field(2, modulus)
        self.assertEqual(modulus, [1, 1, 1])
        self.assertEqual(field.modulus, (1, 1, 1))
        self.assertIsInstance(field.modulus, tuple)
        modulus[0] = 0
        self.assertEqual(field.modulus, (1, 1, 1))
        self.assertEqual(field, F4)


class TestEquality(unittest.TestCase):
    def test_equal_fields(self):
        self.assertTrue(Field(2, (1, 1, 1)) == Field(2, [1, 1, 1]))
        self.assertTrue(Field(5) == Field(5, (0, 1)))
        self.assertIs(Field(2) == Field(2), True)
        self.assertFalse(Field(2) != Field(2))

    def test_unequal_fields(self):
        for i, one in enumerate(ALL):
            for j, other in enumerate(ALL):
                self.assertIs(one == other, i == j)
        self.assertFalse(Field(2, (0, 1)) == Field(2, (1, 1)))
        self.assertFalse(Field(2, (1, 1, 0, 1)) == Field(2, (1, 0, 1, 1)))
        self.assertFalse(Field(2, (1, 1)) == Field(3, (1, 1)))
        self.assertTrue(Field(2, (1, 1)) != Field(3, (1, 1)))

    def test_other_values(self):
        for value in (*ODD_VALUES, (2, (0, 1)), variable(F2), F2.modulus):
            self.assertIs(F2 == value, False, value)
            self.assertTrue(F2 != value)


class TestMembers(unittest.TestCase):
    def test_all_in_order(self):
        for field in ALL:
            members = all_members(field.p, field.n)
            self.assertEqual(list(field.members()), members)
            self.assertEqual(len(members), field.q)
            self.assertEqual([field.number(a) for a in members], list(range(field.q)))
            self.assertEqual([field.member(number) for number in range(field.q)], members)

    def test_numbers_are_sums(self):
        self.assertEqual(F9.number((2, 1)), 5)
        self.assertEqual(F27.number((1, 2, 1)), 16)
        self.assertEqual(F256.number((1, 0, 1, 0, 0, 0, 0, 1)), 133)
        self.assertEqual(F27.member(16), (1, 2, 1))

    def test_members_is_a_generator(self):
        self.assertTrue(inspect.isgeneratorfunction(Field.members))
        self.assertEqual(next(F9.members()), (0, 0))

    def test_two_runs_do_not_disturb_each_other(self):
        pairs = [(a, b) for a in F4.members() for b in F4.members()]
        self.assertEqual(pairs, list(product(all_members(2, 2), repeat=2)))

    def test_numbers_out_of_range(self):
        for field in ALL:
            for number in (-1, -field.q, field.q, field.q + 1, 10**30, -(10**30)):
                with self.assertRaises(Refused) as caught:
                    field.member(number)
                self.assertEqual(caught.exception.reason, "number")

    def test_is_member(self):
        for field in ALL:
            for a in sample(field, 20):
                self.assertIs(field.is_member(a), True)

    def test_is_no_member(self):
        for value in ODD_VALUES:
            self.assertIs(F9.is_member(value), value == (0, 1) and isinstance(value, tuple), value)
            self.assertIs(F27.is_member(value), False, value)
        for value in ((1, 3), (-1, 0), (0, True), (False, 0), (1,), (1, 1, 1), [1, 1], ("1", 1), (1, None), (1, (1,)),
                      ((1, 1),), (1, [1]), F9, variable(F9), (F9, F9), "11"):
            self.assertIs(F9.is_member(value), False, value)
        self.assertIs(F5.is_member(3), False)
        self.assertIs(F5.is_member((5,)), False)
        self.assertIs(F2.is_member((True,)), False)
        self.assertIs(F2.is_member((False,)), False)

    def test_zero_one_and_integers(self):
        for field in ALL:
            rest = (0,) * (field.n - 1)
            self.assertEqual(field.zero(), (0, *rest))
            self.assertEqual(field.one(), (1, *rest))
            for k in (0, 1, 2, -1, -2, field.p - 1, field.p, field.p + 1, -field.p, 10**30, -(10**30)):
                self.assertEqual(field.integer(k), (k % field.p, *rest))

    def test_generators(self):
        self.assertEqual(F4.generator(), (0, 1))
        self.assertEqual(F27.generator(), (0, 1, 0))
        self.assertEqual(F256.generator(), (0, 1, 0, 0, 0, 0, 0, 0))
        self.assertEqual(F5.generator(), (0,))
        self.assertEqual(F7.generator(), (3,))
        self.assertEqual(F397.generator(), (1,))
        self.assertEqual(Field(2, (1, 1)).generator(), (1,))

    def test_the_generator_is_a_root_of_the_modulus(self):
        for field in ALL:
            total = field.zero()
            for k, item in enumerate(field.modulus):
                total = field.add(total, field.multiply(field.integer(item), field.power(field.generator(), k)))
            self.assertEqual(total, field.zero())


class TestArithmetic(unittest.TestCase):
    def pairs(self):
        """Triples of a field and two members: all pairs of the small fields, and some of the others."""
        for field in ALL:
            members = all_members(field.p, field.n) if field.q <= 49 else sample(field, 30)
            for a, b in product(members, repeat=2):
                yield field, a, b

    def test_sums_and_differences(self):
        for field, a, b in self.pairs():
            self.assertEqual(field.add(a, b), member_sum(field.p, a, b))
            self.assertEqual(member_sum(field.p, field.subtract(a, b), b), a)
            self.assertTrue(field.is_member(field.subtract(a, b)))

    def test_negatives(self):
        for field in ALL:
            for a in all_members(field.p, field.n):
                self.assertTrue(field.is_member(field.negative(a)))
                self.assertEqual(member_sum(field.p, a, field.negative(a)), field.zero())

    def test_products(self):
        for field, a, b in self.pairs():
            self.assertEqual(field.multiply(a, b), member_product(field.p, field.modulus, a, b))

    def test_example(self):
        self.assertEqual(F9.written(F9.multiply((1, 1), (1, 2))), "2")

    def test_products_modulo_every_modulus(self):
        for p, degree in ((2, 3), (2, 4), (3, 2), (5, 2)):
            for modulus in monic_rows(p, degree):
                if is_irreducible_by_trial(modulus, p):
                    field = Field(p, modulus)
                    for a, b in product(all_members(p, degree), repeat=2):
                        self.assertEqual(field.multiply(a, b), member_product(p, modulus, a, b))

    def test_quotients(self):
        for field, a, b in self.pairs():
            if b != field.zero():
                self.assertEqual(member_product(field.p, field.modulus, field.divide(a, b), b), a)

    def test_the_inverse_of_every_member(self):
        for field in ALL:
            for a in all_members(field.p, field.n)[1:]:
                inverse = field.inverse(a)
                self.assertTrue(field.is_member(inverse))
                self.assertEqual(member_product(field.p, field.modulus, a, inverse), field.one())

    def test_division_by_zero(self):
        for field in ALL:
            with self.assertRaises(ZeroDivisor):
                field.inverse(field.zero())
            for a in (field.zero(), field.one(), field.generator()):
                with self.assertRaises(ZeroDivisor):
                    field.divide(a, field.zero())

    def test_the_field_serves_linear_equations(self):
        t, one = F9.generator(), F9.one()
        rows = ((one, t), (t, one))
        self.assertEqual(determinant(F9, rows), (2, 0))
        self.assertEqual(solve(F9, rows, 2, (one, t)), (one, F9.zero()))


class TestPowers(unittest.TestCase):
    def test_exponents_from_0_on(self):
        for field in (*SMALL, F16, F27, F361):
            for a in sample(field, 8):
                power = field.one()
                for k in range(30):
                    self.assertEqual(field.power(a, k), power, (field.modulus, a, k))
                    power = member_product(field.p, field.modulus, power, a)

    def test_negative_exponents(self):
        for field in (*SMALL, F16, F256):
            for a in sample(field, 8)[1:]:
                for k in range(1, 20):
                    power = field.power(a, -k)
                    self.assertEqual(member_product(field.p, field.modulus, power, field.power(a, k)), field.one())

    def test_great_exponents(self):
        for field in ALL:
            for a in sample(field, 8)[1:]:
                self.assertEqual(field.power(a, (field.q - 1) * 10**30 + 1), a)
                self.assertEqual(field.power(a, -(field.q - 1) * 10**30), field.one())

    def test_powers_of_zero(self):
        for field in ALL:
            self.assertEqual(field.power(field.zero(), 0), field.one())
            for k in (1, 2, field.q - 1, field.q, 10**30):
                self.assertEqual(field.power(field.zero(), k), field.zero())
            for k in (-1, -2, 1 - field.q, -(10**30)):
                with self.assertRaises(ZeroDivisor):
                    field.power(field.zero(), k)

    def test_frobenius(self):
        for field in ALL:
            for a in sample(field, 10):
                self.assertEqual(field.frobenius(a, 0), a)
                self.assertEqual(field.frobenius(a), field.power(a, field.p))
                for k in range(2 * field.n + 2):
                    self.assertEqual(field.frobenius(a, k), field.power(a, field.p**k))
                self.assertEqual(field.frobenius(a, field.n * 10**30 + 1), field.frobenius(a, 1))


class TestPowersOfSums(unittest.TestCase):
    """Point 2.6, for all members of small fields."""

    def test_the_power_q_of_a_member_is_the_member(self):
        for field in ALL:
            for a in field.members():
                self.assertEqual(field.power(a, field.q), a)

    def test_powers_p_to_the_k_of_sums(self):
        for field in (*SMALL, *MIDDLE):
            for k in range(field.n + 2):
                for a, b in product(field.members(), repeat=2):
                    power = field.p**k
                    parts = field.add(field.power(a, power), field.power(b, power))
                    self.assertEqual(field.power(field.add(a, b), power), parts)

    def test_the_power_p_is_one_to_one_and_keeps_sums_and_products(self):
        for field in (*SMALL, *MIDDLE):
            images = [field.frobenius(a) for a in field.members()]
            self.assertEqual(sorted(images), sorted(field.members()))
            for a, b in product(field.members(), repeat=2):
                images = field.frobenius(a), field.frobenius(b)
                self.assertEqual(field.frobenius(field.add(a, b)), field.add(*images))
                self.assertEqual(field.frobenius(field.multiply(a, b)), field.multiply(*images))


class TestTexts(unittest.TestCase):
    def test_examples(self):
        self.assertEqual(F4.written((0, 0)), "0")
        self.assertEqual(F4.written((1, 0)), "1")
        self.assertEqual(F4.written((0, 1)), "t")
        self.assertEqual(F4.written((1, 1)), "t+1")
        self.assertEqual(F9.written((2, 2)), "2*t+2")
        self.assertEqual(F27.written((1, 0, 2)), "2*t^2+1")
        self.assertEqual(F27.written((0, 1, 1)), "t^2+t")
        self.assertEqual(F256.written((0, 1, 0, 0, 1, 0, 0, 1)), "t^7+t^4+t")
        self.assertEqual(F361.written((10, 18)), "18*t+10")
        self.assertEqual(F397.written((396,)), "396")

    def test_all_members_and_back(self):
        for field in ALL:
            for a in field.members():
                text = field.written(a)
                self.assertEqual(text, text_of(a))
                self.assertEqual(field.read_member(text), a)

    def no_text(self, field, value):
        with self.assertRaises(NoText, msg=value) as caught:
            field.read_member(value)
        self.assertEqual(caught.exception.at, 0)

    def test_texts_that_are_almost_right(self):
        for text in (
            "", " ", "+", "t+", "+t", "+1", "t++1", "t+1+", "1+", "-1", "-t", "t-1",
            "0*t", "0*t+1", "t+0", "0+0", "00", "01", "1*t", "1*t+1", "1*t^2", "2*t+0", "0+t",
            " t", "t ", "t + 1", "t +1", "2 *t", "2* t", "2*t +1", "\tt", "t\n", "1\n",
            "t^1", "2*t^1", "t^0", "t^02", "t^ 2", "t^", "t^^2", "t^2^2", "t^-1", "2t", "2*", "*t", "t*2", "2**t", "tt",
            "t^3", "2*t^3", "t^4", "t^10", "t^3+1",
            "1+t", "t+t^2", "1+t^2", "t+1+t^2", "2+t+t^2",
            "1+1", "t+t", "t^2+t^2", "2*t+t", "t+1+1",
            "3", "4", "3*t", "5*t^2", "-1*t", "1.0", "x", "T", "2*x", "(t)", "a", "0x1", "1_0", "\u0661", "\u00b2",
            "9" * 5000, "t^" + "9" * 5000,
        ):
            self.no_text(F27, text)

    def test_a_field_of_prime_size_knows_no_t(self):
        for text in ("t", "1*t", "t+1", "t^0", "5", "-1", "05", "5*1", "4+1"):
            self.no_text(F5, text)
        self.assertEqual(F5.read_member("4"), (4,))

    def test_values_that_are_no_strings(self):
        for value in (*ODD_VALUES, (1, 0, 0), ["t"], ("t",), F27, variable(F27)):
            if value not in ("0", "1", "t"):
                self.no_text(F27, value)


if __name__ == "__main__":
    unittest.main()

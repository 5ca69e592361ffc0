"""Points 2.4 and 2.5 and the interface of fieldmaps.poly."""

import unittest
from itertools import product

from fieldmaps.errors import Malformed, ZeroDivisor
from fieldmaps.field import Field
from fieldmaps.poly import Poly, cofactors, common_divisor, constant, monomial, power_of_x, variable
from tests.plain import (
    F2,
    F3,
    F4,
    F5,
    F7,
    F9,
    F25,
    F256,
    F397,
    ODD_VALUES,
    cut,
    monic_polys,
    multiplied,
    numbers_of,
    poly,
    polys_below,
    product_of_members,
)


def nothing(field):
    return Poly(field, ())


def value_at(f, a):
    """The sum of the coefficients times the powers of a member."""
    total = f.field.zero()
    for k, item in enumerate(f.row):
        total = f.field.add(total, f.field.multiply(item, f.field.power(a, k)))
    return total


def plain_sum(f, g, negative=False):
    """The coefficients of f + g, or of f - g."""
    field = f.field
    row = []
    for k in range(max(len(f.row), len(g.row))):
        x = f.row[k] if k < len(f.row) else field.zero()
        y = g.row[k] if k < len(g.row) else field.zero()
        row.append(field.subtract(x, y) if negative else field.add(x, y))
    return cut(row, field.zero())


def sample(field):
    """The zero polynomial, constants, and polynomials of several degrees, not all of them monic."""
    t, top = field.generator(), field.member(field.q - 1)
    one, none = field.one(), field.zero()
    rows = ((), (one,), (top,), (none, one), (t, top), (one, t, one), (top, none, none, top), (t, one, none, t, one))
    return [Poly(field, row) for row in rows]


def sample_pairs():
    """All pairs of small polynomials over the fields of 2 and 3 members, and pairs over some other fields."""
    pairs = [pair for pair in product(polys_below(F2, 4), repeat=2)]
    pairs.extend(product(polys_below(F3, 3), repeat=2))
    for field in (F4, F5, F7, F9, F25, F256, F397):
        pairs.extend(product(sample(field), repeat=2))
    return pairs


PAIRS = sample_pairs()
FIELDS = (F2, F3, F4, F5, F7, F9, F25, F256, F397)


class TestMaking(unittest.TestCase):
    def test_lists_and_tuples(self):
        for kind in (list, tuple):
            f = Poly(F4, kind([(1, 0), (0, 1)]))
            self.assertEqual(f.row, ((1, 0), (0, 1)))
            self.assertIsInstance(f.row, tuple)
            self.assertEqual(f.field, F4)

    def test_zeros_at_the_end_are_left_out(self):
        self.assertEqual(Poly(F4, [(0, 0), (1, 1), (0, 0), (0, 0)]).row, ((0, 0), (1, 1)))
        self.assertEqual(Poly(F4, [(0, 0), (0, 0)]).row, ())
        self.assertEqual(Poly(F2, ()).row, ())
        self.assertEqual(Poly(F2, []).row, ())

    def test_items_that_are_no_members(self):
        for item in (*ODD_VALUES, (3, 0), (0, -1), (1,), (True, 0), [0, 0], F9, variable(F9)):
            if item != (0, 1):
                for row in ([item], (item,), [(1, 0), item], (item, (1, 0)), [(1, 0), item, (0, 0)]):
                    with self.assertRaises(Malformed, msg=row):
                        Poly(F9, row)

    def test_members_of_another_field(self):
        for field, item in ((F2, (2,)), (F5, (5,)), (F4, (1,)), (F2, (0, 1)), (F9, (3, 0))):
            with self.assertRaises(Malformed):
                Poly(field, [item])

    def test_a_list_is_copied(self):
        row = [(1, 0), (0, 0)]
        f = Poly(F4, row)
        self.assertEqual(row, [(1, 0), (0, 0)])
        row[0] = (0, 0)
        self.assertEqual(f.row, ((1, 0),))


class TestEquality(unittest.TestCase):
    def test_equal_ones(self):
        self.assertIs(poly(F4, 1, 2) == Poly(Field(2, [1, 1, 1]), [(1, 0), (0, 1), (0, 0)]), True)
        self.assertIs(poly(F4, 1, 2) != poly(F4, 1, 2), False)
        self.assertTrue(nothing(F2) == Poly(F2, [(0,)]))

    def test_unequal_ones(self):
        self.assertIs(poly(F4, 1, 2) == poly(F4, 2, 1), False)
        self.assertIs(poly(F4, 1) == poly(F4, 0, 1), False)
        self.assertTrue(poly(F4, 1, 2) != poly(F4, 1, 3))

    def test_unequal_fields(self):
        self.assertIs(nothing(F2) == nothing(F3), False)
        self.assertIs(poly(F2, 1, 1) == poly(Field(2, (1, 1)), 1, 1), False)
        self.assertIs(poly(F9, 1) == poly(Field(3, (2, 1, 1)), 1), False)

    def test_other_values(self):
        for f in (nothing(F2), poly(F2, 1), variable(F4)):
            for value in (*ODD_VALUES, f.row, list(f.row), F2, f.field, str(f)):
                self.assertIs(f == value, False, value)
                self.assertTrue(f != value)


class TestSumsAndProducts(unittest.TestCase):
    def test_sums(self):
        for f, g in PAIRS:
            self.assertEqual((f + g).row, plain_sum(f, g))

    def test_differences(self):
        for f, g in PAIRS:
            self.assertEqual((f - g).row, plain_sum(f, g, negative=True))

    def test_negatives(self):
        for f, _ in PAIRS:
            self.assertEqual((-f).row, tuple(f.field.negative(item) for item in f.row))

    def test_products(self):
        for f, g in PAIRS:
            self.assertEqual((f * g).row, product_of_members(f.field, f.row, g.row))

    def test_answers_are_over_the_field(self):
        f, g = poly(F9, 1, 2), poly(F9, 5, 1)
        for result in (f + g, f - g, f * g, -f, f // g, f % g):
            self.assertIsInstance(result, Poly)
            self.assertEqual(result.field, F9)

    def test_the_arguments_stay(self):
        f, g = poly(F9, 1, 2, 3), poly(F9, 5, 1)
        for _ in range(2):
            self.assertEqual(numbers_of(f * g + f // g - f % g), numbers_of(f * g + f // g - f % g))
            self.assertEqual((numbers_of(f), numbers_of(g)), ((1, 2, 3), (5, 1)))


class TestDivision(unittest.TestCase):
    def test_multiplied_out(self):
        for f, g in PAIRS:
            if g.row:
                quotient, rest = f // g, f % g
                self.assertLess(len(rest.row), len(g.row))
                whole = Poly(f.field, product_of_members(f.field, quotient.row, g.row))
                self.assertEqual(plain_sum(whole, rest), f.row, (numbers_of(f), numbers_of(g)))

    def test_constants_as_divisors(self):
        f = poly(F5, 1, 2, 3)
        self.assertEqual(numbers_of(f // poly(F5, 2)), (3, 1, 4))
        self.assertEqual((f % poly(F5, 2)).row, ())

    def test_zero_as_divisor(self):
        for field in FIELDS:
            for f in sample(field):
                with self.assertRaises(ZeroDivisor):
                    f // nothing(field)
                with self.assertRaises(ZeroDivisor):
                    f % nothing(field)


class TestUnequalFields(unittest.TestCase):
    OPERATIONS = (
        lambda f, g: f + g,
        lambda f, g: f - g,
        lambda f, g: f * g,
        lambda f, g: f // g,
        lambda f, g: f % g,
    )

    def test_malformed(self):
        for other in (F2, Field(2, (1, 1)), Field(2, (1, 0, 1, 1)), F9, F397):
            for f, g in product(sample(F4), sample(other)):
                for operation in self.OPERATIONS:
                    with self.assertRaises(Malformed):
                        operation(f, g)

    def test_malformed_ahead_of_zero_divisor(self):
        for f in sample(F4):
            for other in (F2, F9):
                with self.assertRaises(Malformed):
                    f // nothing(other)
                with self.assertRaises(Malformed):
                    f % nothing(other)
                with self.assertRaises(Malformed):
                    f.power_modulo(0, nothing(other))


class TestValues(unittest.TestCase):
    def test_values_at_members(self):
        for field in (F2, F3, F4, F5, F7, F9, F25):
            for f in sample(field):
                for a in field.members():
                    self.assertEqual(f(a), value_at(f, a))

    def test_zero_and_constants(self):
        for field in FIELDS:
            for a in (field.zero(), field.one(), field.generator()):
                self.assertEqual(nothing(field)(a), field.zero())
                self.assertEqual(constant(field, field.generator())(a), field.generator())
                self.assertEqual(variable(field)(a), a)


class TestParts(unittest.TestCase):
    def test_degree_and_zero(self):
        for f, _ in PAIRS:
            self.assertEqual(f.degree(), len(f.row) - 1)
            self.assertIs(f.is_zero(), f.row == ())
        self.assertEqual(nothing(F4).degree(), -1)
        self.assertEqual(poly(F4, 3).degree(), 0)
        self.assertEqual(poly(F4, 0, 0, 1).degree(), 2)

    def test_leading(self):
        for f, _ in PAIRS:
            if f.row:
                self.assertEqual(f.leading(), f.row[-1])
        for field in FIELDS:
            with self.assertRaises(ZeroDivisor):
                nothing(field).leading()

    def test_coefficient(self):
        f = poly(F9, 5, 0, 7)
        self.assertEqual([f.coefficient(k) for k in range(3)], [(2, 1), (0, 0), (1, 2)])
        for k in (3, 4, -1, -2, -3, -4, 10**30, -(10**30)):
            self.assertEqual(f.coefficient(k), (0, 0))
            self.assertEqual(nothing(F9).coefficient(k), (0, 0))
        self.assertEqual(nothing(F9).coefficient(0), (0, 0))

    def test_scaled(self):
        for field in FIELDS:
            for f in sample(field):
                for a in (field.zero(), field.one(), field.generator(), field.member(field.q - 1)):
                    expected = cut([field.multiply(a, item) for item in f.row], field.zero())
                    self.assertEqual(f.scaled(a).row, expected)

    def test_monic(self):
        for f, _ in PAIRS:
            if f.row:
                self.assertEqual(f.monic().leading(), f.field.one())
                self.assertEqual(f.monic().scaled(f.leading()), f)
        self.assertEqual(nothing(F9).monic(), nothing(F9))

    def test_derivative(self):
        for f, _ in PAIRS:
            field = f.field
            row = [field.multiply(field.integer(k), item) for k, item in enumerate(f.row)][1:]
            self.assertEqual(f.derivative().row, cut(row, field.zero()))
        self.assertEqual(nothing(F4).derivative(), nothing(F4))
        self.assertEqual(poly(F4, 3).derivative(), nothing(F4))
        self.assertEqual(poly(F4, 3, 0, 2, 0, 1).derivative(), nothing(F4))
        self.assertEqual(numbers_of(poly(F9, 1, 2, 3, 4, 5).derivative()), (2, 6, 0, 5))


class TestPowers(unittest.TestCase):
    def test_power(self):
        for field in FIELDS:
            for f in sample(field):
                row = (field.one(),)
                for k in range(7):
                    self.assertEqual(f.power(k).row, row)
                    row = product_of_members(field, row, f.row)

    def test_the_power_zero_of_zero(self):
        self.assertEqual(nothing(F9).power(0), constant(F9, F9.one()))
        self.assertEqual(nothing(F9).power(1), nothing(F9))
        self.assertEqual(nothing(F9).power(10**20), nothing(F9))

    def test_power_modulo(self):
        for field in FIELDS:
            for f, m in product(sample(field), repeat=2):
                if m.row:
                    for k in range(8):
                        self.assertEqual(f.power_modulo(k, m), f.power(k) % m)

    def test_a_constant_as_m(self):
        for k in (0, 1, 2, 10**20):
            for f in sample(F9):
                self.assertEqual(f.power_modulo(k, poly(F9, 5)), nothing(F9))
                self.assertEqual(f.power_modulo(k, poly(F9, 1)), nothing(F9))

    def test_zero_as_m(self):
        for k in (0, 1, 5):
            for f in sample(F9):
                with self.assertRaises(ZeroDivisor):
                    f.power_modulo(k, nothing(F9))

    def test_great_exponents(self):
        # x^3 + x + 1 is irreducible over the field of two, so x has the power 7 one modulo it.
        m = poly(F2, 1, 1, 0, 1)
        self.assertEqual(variable(F2).power_modulo(7 * 10**30 + 1, m), variable(F2))
        self.assertEqual(variable(F397).power_modulo(397 * 396**20, poly(F397, 395, 1)), poly(F397, 1))


    def test_power_of_x(self):
        for field in (F2, F3, F4):
            for m in sample(field)[1:]:
                for k in range(4):
                    self.assertEqual(power_of_x(m, k), monomial(field, field.one(), field.q**k) % m)
        with self.assertRaises(ZeroDivisor):
            power_of_x(nothing(F9), 0)


class TestPut(unittest.TestCase):
    def test_against_sums_of_powers(self):
        for field in FIELDS:
            for f, g in product(sample(field), repeat=2):
                total = nothing(field)
                for k, item in enumerate(f.row):
                    total = Poly(field, plain_sum(total, Poly(field, product_of_members(
                        field, (item,), multiplied(field, [g] * k).row))))
                self.assertEqual(f.put(g), total)

    def test_values(self):
        f, g = poly(F9, 3, 0, 7, 1), poly(F9, 2, 8)
        for a in F9.members():
            self.assertEqual(f.put(g)(a), f(g(a)))

    def test_the_variable_and_zero(self):
        for f in sample(F9):
            self.assertEqual(f.put(variable(F9)), f)
            self.assertEqual(variable(F9).put(f), f)
            self.assertEqual(f.put(nothing(F9)), Poly(F9, f.row[:1]))
            self.assertEqual(nothing(F9).put(f), nothing(F9))


class TestKeys(unittest.TestCase):
    def test_key(self):
        self.assertEqual(nothing(F9).key(), (-1,))
        self.assertEqual(poly(F9, 5).key(), (0, 5))
        self.assertEqual(poly(F9, 5, 0, 7).key(), (2, 7, 0, 5))
        self.assertEqual(variable(F397).key(), (1, 1, 0))

    def test_order(self):
        for field, length in ((F2, 5), (F3, 3), (F4, 3)):
            by_key = sorted(polys_below(field, length), key=lambda f: f.key())
            self.assertEqual(len({f.key() for f in by_key}), field.q**length)
            # With the constant first, the numbers below q^length have the digits of the coefficients.
            values = [sum(n * field.q**k for k, n in enumerate(numbers_of(f))) for f in by_key]
            self.assertEqual(values, list(range(field.q**length)))

    def test_monic_polynomials_in_order(self):
        polys = monic_polys(F4, 2)
        self.assertEqual(sorted(polys, key=Poly.key), polys)
        self.assertEqual(polys[1], poly(F4, 1, 0, 1))


class TestTexts(unittest.TestCase):
    def test_examples(self):
        self.assertEqual(str(nothing(F9)), "0")
        self.assertEqual(str(poly(F2, 1)), "(1)")
        self.assertEqual(str(poly(F9, 5)), "(t+2)")
        self.assertEqual(str(variable(F9)), "(1)*x")
        self.assertEqual(str(poly(F9, 0, 3)), "(t)*x")
        self.assertEqual(str(poly(F9, 1, 0, 8)), "(2*t+2)*x^2 + (1)")
        self.assertEqual(str(poly(F9, 0, 2, 0, 3)), "(t)*x^3 + (2)*x")
        self.assertEqual(str(poly(F2, 1, 1, 1)), "(1)*x^2 + (1)*x + (1)")
        self.assertEqual(str(monomial(F397, (396,), 12)), "(396)*x^12")

    def test_every_text_is_another(self):
        polys = polys_below(F4, 3)
        self.assertEqual(len({str(f) for f in polys}), len(polys))


class TestMakers(unittest.TestCase):
    def test_constant(self):
        self.assertEqual(constant(F9, (2, 1)), Poly(F9, [(2, 1)]))
        self.assertEqual(constant(F9, (0, 0)), nothing(F9))

    def test_monomial(self):
        self.assertEqual(monomial(F9, (2, 1), 0), constant(F9, (2, 1)))
        self.assertEqual(monomial(F9, (2, 1), 3).row, ((0, 0), (0, 0), (0, 0), (2, 1)))
        self.assertEqual(monomial(F9, (0, 0), 3), nothing(F9))

    def test_variable(self):
        for field in FIELDS:
            self.assertEqual(variable(field).row, (field.zero(), field.one()))


class TestCommonDivisor(unittest.TestCase):
    def test_it_is_the_greatest_monic_divisor(self):
        for field, length in ((F2, 4), (F3, 3), (F4, 2)):
            monic = [g for degree in range(length) for g in monic_polys(field, degree)]
            for f, g in product(polys_below(field, length), repeat=2):
                if f.row or g.row:
                    shared = [h for h in monic if not (f % h).row and not (g % h).row]
                    self.assertEqual(common_divisor(f, g), max(shared, key=lambda h: h.degree()))

    def test_zeros_and_constants(self):
        for field in FIELDS:
            self.assertEqual(common_divisor(nothing(field), nothing(field)), nothing(field))
            for f in sample(field)[1:]:
                self.assertEqual(common_divisor(f, nothing(field)), f.monic())
                self.assertEqual(common_divisor(nothing(field), f), f.monic())
                self.assertEqual(common_divisor(f, constant(field, field.member(field.q - 1))).degree(), 0)

    def test_a_shared_factor(self):
        for field in FIELDS:
            t = field.generator()
            shared = Poly(field, [t, field.one(), t, field.one()])
            f, g = shared * poly(field, 1, 1), (shared * poly(field, 0, 1)).scaled(field.member(field.q - 1))
            self.assertEqual(common_divisor(f, g), shared)

    def test_unequal_fields(self):
        for f, g in ((variable(F2), variable(F4)), (variable(F2), nothing(F4)), (nothing(F2), nothing(F4))):
            with self.assertRaises(Malformed):
                common_divisor(f, g)
            with self.assertRaises(Malformed):
                cofactors(f, g)


class TestCofactors(unittest.TestCase):
    def test_sum_and_degrees(self):
        for f, g in PAIRS:
            if f.row or g.row:
                d, u, v = cofactors(f, g)
                self.assertEqual(d, common_divisor(f, g))
                left = Poly(f.field, product_of_members(f.field, u.row, f.row))
                right = Poly(f.field, product_of_members(f.field, v.row, g.row))
                self.assertEqual(plain_sum(left, right), d.row)
                if g.row:
                    bound = g.degree() - d.degree()
                    self.assertTrue(u.is_zero() or u.degree() < bound, (numbers_of(f), numbers_of(g)))
                else:
                    self.assertTrue(v.is_zero())

    def test_both_zero(self):
        for field in FIELDS:
            self.assertEqual(cofactors(nothing(field), nothing(field)), (nothing(field),) * 3)

    def test_one_zero(self):
        f = poly(F5, 4, 0, 2)
        self.assertEqual(cofactors(f, nothing(F5)), (poly(F5, 2, 0, 1), poly(F5, 3), nothing(F5)))
        self.assertEqual(cofactors(nothing(F5), f), (poly(F5, 2, 0, 1), nothing(F5), poly(F5, 3)))

    def test_constants(self):
        two, three, f = poly(F5, 2), poly(F5, 3), poly(F5, 1, 1, 4)
        self.assertEqual(cofactors(two, three), (poly(F5, 1), nothing(F5), two))
        self.assertEqual(cofactors(f, three), (poly(F5, 1), nothing(F5), two))
        self.assertEqual(cofactors(three, f), (poly(F5, 1), two, nothing(F5)))

    def test_equal_ones_and_multiples(self):
        f = poly(F5, 4, 0, 2)
        self.assertEqual(cofactors(f, f), (poly(F5, 2, 0, 1), nothing(F5), poly(F5, 3)))
        self.assertEqual(cofactors(f * variable(F5), f), (poly(F5, 2, 0, 1), nothing(F5), poly(F5, 3)))
        d, u, _ = cofactors(f, f * variable(F5))
        self.assertEqual((d, u), (poly(F5, 2, 0, 1), poly(F5, 3)))


if __name__ == "__main__":
    unittest.main()

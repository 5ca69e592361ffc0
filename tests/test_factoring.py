"""Points 3.3 to 3.6 and the interface of fieldmaps.factoring."""

import unittest
from itertools import combinations, product

from fieldmaps.errors import Malformed, ZeroDivisor
from fieldmaps.factoring import divided, factors, fixed_space, is_squarefree, roots, squarefree_parts
from fieldmaps.irreducible import all_irreducible, is_irreducible, least_irreducible
from fieldmaps.linear import reduced
from fieldmaps.poly import Poly, common_divisor, variable
from tests.plain import (
    F2,
    F3,
    F4,
    F5,
    F8,
    F9,
    F16,
    F25,
    F256,
    F361,
    F397,
    monic_polys,
    multiplied,
    poly,
    polys_below,
    rest_by_monic,
)

FIELDS = (F2, F3, F4, F5, F8, F9)

# Fields and the number of coefficients up to which every polynomial is tried.
TRIED = ((F2, 7), (F3, 5), (F4, 4), (F5, 4), (F8, 3), (F9, 3))


def nothing(field):
    return Poly(field, ())


def divides(g, f):
    return (f % g).is_zero()


# What by_trial found, because several tests go over the same polynomials.
KEPT = {}


def by_trial(f):
    """The pairs of point 3.6: monic divisors tried in order, so that the first one left is irreducible."""
    key = f.field.p, f.field.modulus, f.row
    if key not in KEPT:
        KEPT[key] = tried(f)
    return KEPT[key]


def tried(f):
    rest = f.monic()
    found = []
    degree = 1
    while rest.degree() > 0:
        for g in monic_polys(f.field, degree):
            k = 0
            while rest.degree() >= degree and divides(g, rest):
                rest = rest // g
                k += 1
            if k > 0:
                found.append((g, k))
        degree += 1
    return tuple(found)


def parts_by_trial(f):
    """The squarefree parts, put together from the factors."""
    pairs = by_trial(f)
    exponents = sorted({k for _, k in pairs})
    return tuple((multiplied(f.field, [g for g, j in pairs if j == k]), k) for k in exponents)


def some_irreducible(field):
    """Irreducible polynomials of the degrees 1, 1, 2 and 3, in order."""
    return [*all_irreducible(field, 1)[:2], least_irreducible(field, 2), least_irreducible(field, 3)]


def with_exponents(field, pairs):
    """The product of the powers of pairs (g, k)."""
    return multiplied(field, [g for g, k in pairs for _ in range(k)])


def built_products():
    """Pairs of a monic polynomial and of its factors in order: irreducible ones with every kind of exponent."""
    for field in FIELDS:
        p = field.p
        exponents = (1, 2, 3, p, p + 1)
        known = some_irreducible(field)
        for i, j in combinations(range(len(known)), 2):
            for k, m in product(exponents, repeat=2):
                pairs = ((known[i], k), (known[j], m))
                yield with_exponents(field, pairs), pairs
        for ks in ((p, p, p, p), (2, 2, 1, 1), (p * p, p, 1, p + 1), (1, 1, 1, 1), (2 * p, p * p, 3, p + 1)):
            pairs = tuple(zip(known, ks))
            yield with_exponents(field, pairs), pairs


BUILT = tuple(built_products())


class TestIsSquarefree(unittest.TestCase):
    def test_against_trial(self):
        for field, length in TRIED:
            for f in polys_below(field, length):
                if f.row:
                    expected = all(k == 1 for _, k in by_trial(f))
                    self.assertIs(is_squarefree(f), expected, str(f))

    def test_zero_and_constants(self):
        for field in FIELDS:
            self.assertIs(is_squarefree(nothing(field)), False)
            for number in range(1, field.q):
                self.assertIs(is_squarefree(poly(field, number)), True)

    def test_products(self):
        for f, pairs in BUILT:
            self.assertIs(is_squarefree(f), all(k == 1 for _, k in pairs))

    def test_polynomials_with_the_derivative_zero(self):
        for field in FIELDS:
            f = variable(field).power(field.p)
            self.assertIs(is_squarefree(f), False)
            self.assertIs(is_squarefree(f + poly(field, 1)), False)


class TestSquarefreeParts(unittest.TestCase):
    def test_against_trial(self):
        for field, length in TRIED:
            for f in polys_below(field, length):
                if f.row:
                    self.assertEqual(squarefree_parts(f), parts_by_trial(f), str(f))

    def test_products(self):
        for f, pairs in BUILT:
            field = f.field
            exponents = sorted({k for _, k in pairs})
            expected = tuple((multiplied(field, [g for g, j in pairs if j == k]), k) for k in exponents)
            for number in (1, field.q - 1):
                self.assertEqual(squarefree_parts(f.scaled(field.member(number))), expected)

    def test_zero(self):
        for field in FIELDS:
            with self.assertRaises(ZeroDivisor):
                squarefree_parts(nothing(field))

    def test_constants(self):
        for field in FIELDS:
            for number in range(1, field.q):
                self.assertEqual(squarefree_parts(poly(field, number)), ())

    def test_roots_of_coefficients(self):
        # x^2 + t over the field of four is (x + t^2)^2, because t^4 = t.
        self.assertEqual(squarefree_parts(poly(F4, 2, 0, 1)), ((poly(F4, 3, 1), 2),))
        t = F9.generator()
        f = Poly(F9, [t, F9.zero(), F9.zero(), F9.one()])
        self.assertEqual(squarefree_parts(f), ((Poly(F9, [F9.frobenius(t), F9.one()]), 3),))
        for a in F8.members():
            f = variable(F8).power(4) - Poly(F8, [a])
            self.assertEqual(squarefree_parts(f), ((Poly(F8, [F8.negative(F8.power(a, 2)), F8.one()]), 4),))

    def test_the_same_exponent(self):
        x, one = variable(F2), poly(F2, 1)
        f = (x * (x + one)).power(2) * poly(F2, 1, 1, 1)
        self.assertEqual(squarefree_parts(f), ((poly(F2, 1, 1, 1), 1), (x * (x + one), 2)))

    def test_great_exponents(self):
        f = poly(F2, 1, 1).power(64) * poly(F2, 0, 1).power(31) * poly(F2, 1, 1, 1).power(48)
        expected = ((poly(F2, 0, 1), 31), (poly(F2, 1, 1, 1), 48), (poly(F2, 1, 1), 64))
        self.assertEqual(squarefree_parts(f), expected)


class TestFixedSpace(unittest.TestCase):
    def squarefree(self):
        """Monic squarefree polynomials of positive degree with the number of their irreducible divisors."""
        for field, length in TRIED:
            for degree in range(1, length):
                for f in monic_polys(field, degree):
                    pairs = by_trial(f)
                    if all(k == 1 for _, k in pairs):
                        yield f, len(pairs)

    def test_members_and_dimension(self):
        for f, many in self.squarefree():
            basis = fixed_space(f)
            self.assertIsInstance(basis, tuple)
            self.assertEqual(len(basis), many, str(f))
            for b in basis:
                self.assertLess(b.degree(), f.degree())
                power = multiplied(f.field, [b] * f.field.q)
                self.assertTrue(divides(f, power - b), (str(f), str(b)))

    def test_the_rows_are_reduced(self):
        for f, _ in self.squarefree():
            n = f.degree()
            rows = tuple(tuple(b.coefficient(k) for k in range(n)) for b in fixed_space(f))
            self.assertEqual(reduced(f.field, rows, n)[0], rows)
            self.assertEqual(rows[0], (f.field.one(),) + (f.field.zero(),) * (n - 1))

    def test_remainders_by_the_divisors_are_constant(self):
        f = multiplied(F9, some_irreducible(F9))
        for b in fixed_space(f):
            for g in some_irreducible(F9):
                self.assertLess((b % g).degree(), 1)

    def test_examples(self):
        self.assertEqual(fixed_space(poly(F2, 1, 1, 1)), (poly(F2, 1),))
        self.assertEqual(fixed_space(poly(F2, 0, 1, 1)), (poly(F2, 1), poly(F2, 0, 1)))
        # x^4 + x is the product of x, x + 1 and x^2 + x + 1.
        self.assertEqual(fixed_space(poly(F2, 0, 1, 0, 0, 1)), (poly(F2, 1), poly(F2, 0, 1, 1), poly(F2, 0, 0, 0, 1)))

    def refused(self, f):
        with self.assertRaises(Malformed, msg=str(f)):
            fixed_space(f)
        with self.assertRaises(Malformed, msg=str(f)):
            divided(f)

    def test_malformed(self):
        for field in FIELDS:
            self.refused(nothing(field))
            for number in range(1, field.q):
                self.refused(poly(field, number))
            for number in range(2, field.q):
                self.refused(poly(field, 1, number))
                self.refused(least_irreducible(field, 2).scaled(field.member(number)))
            for g in some_irreducible(field):
                self.refused(g.power(2))
                self.refused(g.power(field.p))
                self.refused(g.power(2) * variable(field))

    def test_every_polynomial_is_malformed_or_not(self):
        for field, length in ((F2, 6), (F3, 4), (F4, 3)):
            for f in polys_below(field, length):
                fits = f.degree() > 0 and f == f.monic() and all(k == 1 for _, k in by_trial(f))
                if fits:
                    self.assertEqual(divided(f), tuple(g for g, _ in by_trial(f)))
                else:
                    self.refused(f)


class TestDivided(unittest.TestCase):
    def test_products_of_known_ones(self):
        for field in FIELDS:
            known = [g for n in (1, 2, 3) if field.q**n <= 100 for g in all_irreducible(field, n)]
            for many in (1, 2, 3, 5, 8):
                for start in range(0, len(known), 4):
                    chosen = known[start::max(1, len(known) // many)][:many]
                    self.assertEqual(divided(multiplied(field, reversed(chosen))), tuple(chosen))

    def test_all_of_one_degree(self):
        for field, n in ((F2, 4), (F2, 5), (F3, 3), (F4, 2), (F5, 2), (F8, 1), (F9, 1), (F25, 1)):
            known = all_irreducible(field, n)
            self.assertEqual(divided(multiplied(field, known)), known)

    def test_the_difference_of_a_power_and_the_variable(self):
        # x^(q^k) - x is the product of the irreducible ones whose degrees divide k, each once.
        for field, k in ((F2, 4), (F2, 6), (F3, 3), (F4, 2), (F5, 2), (F16, 1)):
            known = [g for d in range(1, k + 1) if k % d == 0 for g in all_irreducible(field, d)]
            f = variable(field).power(field.q**k) - variable(field)
            self.assertEqual(divided(f), tuple(sorted(known, key=Poly.key)))

    def test_an_irreducible_one(self):
        for field in FIELDS:
            for g in some_irreducible(field):
                self.assertEqual(divided(g), (g,))


class TestFactors(unittest.TestCase):
    def test_against_trial(self):
        for field, length in TRIED:
            for f in polys_below(field, length):
                if f.row:
                    self.assertEqual(factors(f), by_trial(f), str(f))

    def test_products(self):
        for f, pairs in BUILT:
            field = f.field
            for number in (1, field.q - 1):
                found = factors(f.scaled(field.member(number)))
                self.assertIsInstance(found, tuple)
                self.assertEqual(found, pairs)

    def test_zero(self):
        for field in (*FIELDS, F256, F397):
            with self.assertRaises(ZeroDivisor):
                factors(nothing(field))

    def test_constants(self):
        for field in FIELDS:
            for number in range(1, field.q):
                self.assertEqual(factors(poly(field, number)), ())

    def test_the_product_over_larger_fields(self):
        for field in (F25, F256, F361, F397):
            numbers = [(7 * k * k + 3 * k + 5) % field.q for k in range(12)]
            f = Poly(field, [field.member(number) for number in numbers])
            pairs = factors(f)
            self.assertEqual(with_exponents(field, pairs).scaled(f.leading()), f)
            self.assertEqual([g for g, _ in pairs], sorted([g for g, _ in pairs], key=Poly.key))
            for g, k in pairs:
                self.assertTrue(is_irreducible(g))
                self.assertEqual(g, g.monic())
                self.assertTrue(divides(g.power(k), f) and not divides(g.power(k + 1), f))

    def test_examples(self):
        self.assertEqual(factors(poly(F2, 0, 0, 1, 1)), ((poly(F2, 0, 1), 2), (poly(F2, 1, 1), 1)))
        self.assertEqual(factors(poly(F4, 1, 1, 1)), ((poly(F4, 2, 1), 1), (poly(F4, 3, 1), 1)))
        self.assertEqual(factors(poly(F5, 2)), ())

    def test_reducible_moduli_modulo_every_prime(self):
        # x^4 + 1 has no irreducible form modulo any prime.
        for field in (F2, F3, F5, F397):
            degrees = [g.degree() for g, _ in factors(poly(field, 1, 0, 0, 0, 1))]
            self.assertTrue(all(degree < 4 for degree in degrees))

    def test_rows_modulo_a_prime(self):
        for g, k in factors(Poly(F3, [(c,) for c in (1, 2, 0, 1, 1, 0, 2, 1)])):
            row = tuple(item[0] for item in g.row)
            self.assertEqual(rest_by_monic((1, 2, 0, 1, 1, 0, 2, 1), row, 3), ())
            self.assertGreaterEqual(k, 1)


class TestRoots(unittest.TestCase):
    def test_all_members_tried(self):
        for field, length in TRIED:
            for f in polys_below(field, length):
                if f.row:
                    expected = []
                    for number in range(field.q):
                        a = field.member(number)
                        if divides(Poly(field, [field.negative(a), field.one()]), f):
                            expected.append(a)
                    self.assertEqual(roots(f), tuple(expected), str(f))

    def test_zero(self):
        for field in FIELDS:
            with self.assertRaises(ZeroDivisor):
                roots(nothing(field))

    def test_zero_as_a_root_and_no_roots(self):
        for field in (*FIELDS, F397):
            self.assertEqual(roots(variable(field)), (field.zero(),))
            self.assertEqual(roots(variable(field).power(5)), (field.zero(),))
            self.assertEqual(roots(poly(field, field.q - 1)), ())
            self.assertEqual(roots(least_irreducible(field, 2)), ())

    def test_each_once_and_ascending(self):
        f = poly(F9, 2, 1).power(3) * poly(F9, 7, 1).power(2) * poly(F9, 4, 1) * least_irreducible(F9, 2)
        found = roots(f)
        self.assertIsInstance(found, tuple)
        expected = sorted(F9.number(F9.negative(F9.member(number))) for number in (2, 7, 4))
        self.assertEqual([F9.number(a) for a in found], expected)

    def test_all_members(self):
        for field in (F25, F256):
            f = variable(field).power(field.q) - variable(field)
            self.assertEqual(roots(f), tuple(field.members()))


class TestArguments(unittest.TestCase):
    def test_equal_arguments_give_equal_results(self):
        f = poly(F4, 2, 3, 0, 1, 1)
        before = f.row
        for function in (is_squarefree, squarefree_parts, factors, roots):
            self.assertEqual(function(f), function(poly(F4, 2, 3, 0, 1, 1)))
        self.assertEqual(f.row, before)
        self.assertEqual(common_divisor(f, f), f)


if __name__ == "__main__":
    unittest.main()

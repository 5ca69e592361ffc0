"""The papers of points 7.2 to 7.6 and the interface of fieldmaps.papers: each is held against what its point asks."""

import unittest
from itertools import product

from fieldmaps.errors import Refused, ZeroDivisor
from fieldmaps.field import Field
from fieldmaps.irreducible import all_irreducible, is_irreducible, least_irreducible
from fieldmaps.papers import factors_paper, irreducible_paper, maps_paper, order_paper, recurrence_paper
from fieldmaps.poly import Poly, cofactors, constant, monomial, variable
from fieldmaps.recurrences import Recurrence, least_recurrence
from tests.plain import (
    F2,
    F3,
    F4,
    F5,
    F7,
    F8,
    F9,
    F16,
    F25,
    F27,
    F64,
    F81,
    F256,
    F361,
    F397,
    members,
    monic_polys,
    poly,
    polys_below,
    primes_of,
    vectors,
    walked_powers,
)
from tests.reference import (
    difference_rest,
    right_factors,
    right_irreducible,
    right_maps,
    right_order,
    right_recurrence,
)

OTHER4 = Field(2, [1, 1, 1])
OTHER9 = Field(3, (2, 1, 1))
OTHER16 = Field(2, (1, 1, 0, 0, 1))


class PaperCase(unittest.TestCase):
    def check_irreducible(self, f, paper):
        """Point 7.2, and cofactors as chapter 2 gives them."""
        self.assertTrue(right_irreducible(f.field, f.row, paper), (str(f), paper))
        for divisor, (u, v) in zip(primes_of(f.degree()), paper[1], strict=True):
            r = difference_rest(f.field, f.row, f.degree() // divisor)
            self.assertTrue(not u or len(u) < len(r))
            told = cofactors(f, Poly(f.field, r))
            self.assertEqual((told[1].row, told[2].row), (u, v))

    def check_factors(self, f, paper):
        """Point 7.3, and the papers of the factors."""
        self.assertTrue(right_factors(f.field, f.row, paper), (str(f), paper))
        for row, _, inner in paper[2]:
            self.check_irreducible(Poly(f.field, row), inner)

    def check_maps(self, a, b, paper):
        """Point 7.4."""
        self.assertTrue(right_maps(a, b, paper), paper)

    def check_order(self, field, a, paper):
        """Point 7.5."""
        self.assertTrue(right_order(field, a, paper), paper)

    def check_recurrence(self, field, terms, paper):
        """Point 7.6."""
        self.assertTrue(right_recurrence(field, terms, paper), paper)


class TestIrreduciblePaper(PaperCase):
    def test_irreducible_ones(self):
        for field, degree in ((F2, 7), (F3, 4), (F4, 3), (F5, 3), (F9, 2)):
            for k in range(1, degree + 1):
                for f in all_irreducible(field, k):
                    self.check_irreducible(f, irreducible_paper(f))

    def test_greater_degrees(self):
        for field, degree in ((F2, 12), (F2, 30), (F3, 8), (F16, 6), (F25, 4), (F256, 2), (F397, 3)):
            f = least_irreducible(field, degree)
            paper = irreducible_paper(f)
            self.check_irreducible(f, paper)
            self.assertEqual(len(paper[1]), len(primes_of(degree)))

    def test_the_degree_one_has_no_pairs(self):
        for field in (F2, F3, F9, F397):
            for a in field.members():
                self.assertEqual(irreducible_paper(Poly(field, (a, field.one()))), ("irreducible", ()))

    def test_every_other_polynomial(self):
        others = [f for field, length in ((F2, 6), (F3, 4), (F4, 3)) for f in polys_below(field, length)
                  if not is_irreducible(f) or f.row[-1] != field.one()]
        others.extend([poly(F5, 2), poly(F5, 0, 2), poly(F5, 1, 0, 3), poly(F397), monomial(F9, (1, 0), 2)])
        for f in others:
            with self.assertRaises(Refused, msg=str(f)) as caught:
                irreducible_paper(f)
            self.assertEqual(caught.exception.reason, "reducible")

    def test_examples(self):
        self.assertEqual(irreducible_paper(poly(F2, 1, 1, 1)), ("irreducible", (((), ((1,),)),)))
        self.assertEqual(irreducible_paper(poly(F2, 1, 1, 0, 1)), ("irreducible", ((((1,),), ((1,), (1,))),)))


class TestFactorsPaper(PaperCase):
    def test_all_polynomials_of_small_degrees(self):
        for field, length in ((F2, 7), (F3, 4), (F4, 3), (F5, 3)):
            for f in polys_below(field, length):
                if f.row:
                    self.check_factors(f, factors_paper(f))

    def test_products(self):
        for field in (F2, F4, F9, F27, F256, F397):
            t = field.generator()
            g = Poly(field, (t, field.one()))
            for f in (g * g * variable(field), g.power(field.p).scaled(t), (g * g + g) * poly(field, 1, 1).power(2)):
                if f.row:
                    self.check_factors(f, factors_paper(f))

    def test_constants_have_no_parts(self):
        for field in (F2, F9, F397):
            for a in list(field.members())[1:]:
                self.assertEqual(factors_paper(constant(field, a)), ("factors", a, ()))

    def test_zero(self):
        for field in (F2, F9, F397):
            with self.assertRaises(ZeroDivisor):
                factors_paper(Poly(field, ()))

    def test_examples(self):
        x, other = members(F2, 0, 1), members(F2, 1, 1)
        parts = ((x, 2, ("irreducible", ())), (other, 1, ("irreducible", ())))
        self.assertEqual(factors_paper(poly(F2, 0, 0, 1, 1)), ("factors", (1,), parts))
        parts = ((members(F9, 0, 1), 1, ("irreducible", ())),)
        self.assertEqual(factors_paper(poly(F9, 0, 5)), ("factors", (2, 1), parts))


class TestMapsPaper(PaperCase):
    def test_all_pairs_of_fields(self):
        fields = (F2, Field(2, (1, 1)), F3, F4, OTHER4, F5, F8, F9, OTHER9, F16, OTHER16, F64, F81, F256, F361, F397)
        for a, b in product(fields, repeat=2):
            self.check_maps(a, b, maps_paper(a, b))

    def test_examples(self):
        self.assertEqual(maps_paper(F4, OTHER4), ("maps", ((0, 1), (1, 1))))
        self.assertEqual(maps_paper(F9, OTHER9), ("maps", ((2, 1), (1, 2))))
        self.assertEqual(maps_paper(F2, Field(2, (1, 1))), ("maps", ((0,),)))
        self.assertEqual(maps_paper(F7, F7), ("maps", ((3,),)))

    def test_unlike_sizes_and_primes(self):
        for a, b in ((F4, F16), (F16, F4), (F2, F3), (F8, F9), (F9, F81), (F5, F397)):
            self.assertEqual(maps_paper(a, b), ("maps", ()))


class TestOrderPaper(PaperCase):
    def test_every_member(self):
        for field in (F2, F3, F4, F5, F7, F8, F9, F16, F25, F27, F256, F397):
            for a in list(field.members())[1:]:
                paper = order_paper(field, a)
                self.check_order(field, a, paper)
                self.assertEqual(paper[1], len(walked_powers(field, a)))

    def test_one_has_no_primes(self):
        for field in (F2, F3, F9, F397):
            self.assertEqual(order_paper(field, field.one()), ("order", 1, ()))

    def test_zero(self):
        for field in (F2, F3, F9, F397):
            with self.assertRaises(ZeroDivisor):
                order_paper(field, field.zero())

    def test_examples(self):
        self.assertEqual(order_paper(F7, (3,)), ("order", 6, (2, 3)))
        self.assertEqual(order_paper(F9, (1, 1)), ("order", 8, (2,)))


class TestRecurrencePaper(PaperCase):
    def test_all_short_rows(self):
        for field, many in ((F2, 8), (F3, 5), (F4, 4), (F5, 3)):
            for count in range(many + 1):
                for terms in vectors(field, count):
                    multiples = least_recurrence(field, terms)
                    if 2 * len(multiples) <= count:
                        paper = recurrence_paper(field, terms)
                        self.check_recurrence(field, terms, paper)
                        self.assertEqual(paper[1], multiples)
                    else:
                        with self.assertRaises(Refused, msg=terms) as caught:
                            recurrence_paper(field, terms)
                        self.assertEqual(caught.exception.reason, "short")

    def test_rows_exactly_twice_as_long(self):
        for field in (F2, F9, F256, F397):
            top = field.q - 1
            r = Recurrence(field, members(field, 1, 0, top, 1, top // 2))
            terms = tuple(r.terms(members(field, 0, 0, 0, 0, top), 10))
            paper = recurrence_paper(field, terms)
            self.check_recurrence(field, terms, paper)
            self.assertEqual(paper[1], r.multiples)
            with self.assertRaises(Refused) as caught:
                recurrence_paper(field, terms[:9])
            self.assertEqual(caught.exception.reason, "short")

    def test_the_length_zero(self):
        for field in (F2, F9):
            for count in range(4):
                paper = recurrence_paper(field, (field.zero(),) * count)
                self.assertEqual(paper, ("recurrence", (), ()))

    def test_examples(self):
        terms = members(F5, 0, 1, 1, 3)
        weights = (members(F5, 4, 1), members(F5, 1, 0))
        self.assertEqual(recurrence_paper(F5, terms), ("recurrence", members(F5, 2, 1), weights))
        self.assertEqual(recurrence_paper(F5, members(F5, 3, 1)), ("recurrence", ((2,),), (((2,),),)))
        for terms in (members(F5, 3), members(F5, 0, 0, 1), members(F5, 1, 1, 2)):
            with self.assertRaises(Refused):
                recurrence_paper(F5, terms)


class TestMonicPolynomials(PaperCase):
    def test_a_paper_exactly_for_the_irreducible_ones(self):
        for field, degree in ((F2, 5), (F3, 3), (F4, 2)):
            for f in monic_polys(field, degree):
                if is_irreducible(f):
                    self.check_irreducible(f, irreducible_paper(f))
                else:
                    with self.assertRaises(Refused):
                        irreducible_paper(f)


if __name__ == "__main__":
    unittest.main()

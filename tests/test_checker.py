"""Points 7.1 to 7.7 and the interface of fieldmaps.checker."""

import ast
import unittest
from itertools import permutations, product
from pathlib import Path

from fieldmaps import checker
from fieldmaps.checker import takes_factors, takes_irreducible, takes_maps, takes_order, takes_recurrence
from fieldmaps.errors import Refused
from fieldmaps.field import Field
from fieldmaps.irreducible import least_irreducible
from fieldmaps.maps import power_map
from fieldmaps.papers import factors_paper, irreducible_paper, maps_paper, order_paper, recurrence_paper
from fieldmaps.poly import Poly, cofactors, constant, monomial, power_of_x, variable
from fieldmaps.recurrences import Recurrence
from tests.plain import (
    F2,
    F3,
    F4,
    F5,
    F7,
    F8,
    F9,
    F16,
    F25,
    F27,
    F81,
    F256,
    F397,
    ODD_VALUES,
    changes,
    irreducible_by_trial,
    members,
    monic_polys,
    multiplied,
    poly,
    polys_below,
    primes_of,
    vectors,
    walked_powers,
)
from tests.reference import right_factors, right_irreducible, right_maps, right_order, right_recurrence

OTHER2 = Field(2, (1, 1))
OTHER4 = Field(2, [1, 1, 1])
OTHER9 = Field(3, (2, 1, 1))

# Values that are no papers, with the objects of the document among them, and some that look like papers.
STRANGE = (
    *ODD_VALUES, F4, variable(F4), power_map(F4), Recurrence(F4, ()), [[[[]]]], ((((),),),), "irreducible", "factors",
    ("irreducible",), ("factors",), ("maps",), ("order",), ("recurrence",), ("irreducible", None), ("maps", None),
    ("irreducible", [()]), ("irreducible", 0), ("irreducible", F4), ("irreducible", (F4,)), ("irreducible", ((1, 2),)),
    ("factors", None, None), ("factors", (1,), 0), ("factors", (1,), (None,)), ("factors", (1,), ((), (), ())),
    ("factors", (1,), ((1, 1, 1),)), ("factors", F4, ()), ("maps", F4), ("maps", (F4, F4)), ("maps", (None, None)),
    ("order", None, None), ("order", "1", ()), ("order", 1, None), ("order", 1, (None,)), ("order", (1,), ()),
    ("recurrence", None, None), ("recurrence", (), None), ("recurrence", (1,), (1,)), ("recurrence", F4, F4),
    ("recurrence", (F4,), ((F4,),)), (("irreducible",), ()), (variable(F4), ()), (["irreducible"], ()),
)


def deep(depth):
    """A tuple in a tuple in a tuple, and so on."""
    value = ()
    for _ in range(depth):
        value = (value,)
    return value


class TestTakesIrreducible(unittest.TestCase):
    def test_its_papers(self):
        for field, degree in ((F2, 8), (F3, 4), (F4, 3), (F5, 3), (F9, 2)):
            for k in range(1, degree + 1):
                for f in irreducible_by_trial(field, k):
                    self.assertIs(takes_irreducible(f, irreducible_paper(f)), True)

    def test_one_thing_wrong(self):
        for f in (poly(F2, 1, 1), poly(F2, 1, 1, 1), poly(F2, 1, 1, 0, 0, 0, 0, 1), poly(F9, 3, 1),
                  least_irreducible(F4, 2), least_irreducible(F3, 4), least_irreducible(F9, 3)):
            for paper in changes(irreducible_paper(f)):
                taken = takes_irreducible(f, paper)
                self.assertIs(taken, right_irreducible(f.field, f.row, paper), (str(f), paper))

    def test_pairs_left_out_and_in_another_order(self):
        f = least_irreducible(F2, 6)
        first, second = irreducible_paper(f)[1]
        for pairs in ((), (first,), (second,), (second, first), (first, first), (first, second, second)):
            self.assertIs(takes_irreducible(f, ("irreducible", pairs)), False)
        self.assertIs(takes_irreducible(f, ("irreducible", (first, second))), True)

    def test_a_zero_behind_a_row(self):
        f = least_irreducible(F4, 3)
        ((u, v),) = irreducible_paper(f)[1]
        zero = F4.zero()
        for pair in ((u + (zero,), v), (u, v + (zero,)), ((zero,) + u, v)):
            self.assertIs(takes_irreducible(f, ("irreducible", (pair,))), False)

    def test_other_cofactors(self):
        f = least_irreducible(F2, 4)
        ((u, v),) = irreducible_paper(f)[1]
        r = (variable(F2).power_modulo(4, f) - variable(F2)) % f
        for h in polys_below(F2, 3):
            pair = ((Poly(F2, u) + h * r).row, (Poly(F2, v) - h * f).row)
            self.assertIs(takes_irreducible(f, ("irreducible", (pair,))), True)
            self.assertIs(takes_irreducible(f, ("irreducible", (pair[::-1],))), False)

    def test_no_other_polynomial_has_a_paper_of_these(self):
        for field, length in ((F2, 6), (F3, 4), (F4, 3)):
            found = [f for degree in range(1, length) for f in irreducible_by_trial(field, degree)]
            rows = [f.row for f in found]
            papers = [irreducible_paper(f) for f in found]
            for f in polys_below(field, length):
                for row, paper in zip(rows, papers):
                    taken = takes_irreducible(f, paper)
                    if f.row == row:
                        self.assertIs(taken, True)
                    elif taken:
                        self.assertIn(f.row, rows)

    def test_constants_zero_multiples_and_products(self):
        others = [Poly(F5, ()), poly(F5, 1), poly(F5, 2), poly(F5, 0, 2), poly(F5, 1, 3)]
        others.append(poly(F5, 2, 0, 1).scaled((2,)))
        others.extend([monomial(F5, (1,), 2), poly(F5, 1, 1) * poly(F5, 2, 1), poly(F5, 2, 0, 1) * poly(F5, 1, 1)])
        others.append(multiplied(F5, [poly(F5, 2, 0, 1)] * 2))
        papers = [("irreducible", ())]
        for f in (poly(F5, 2, 0, 1), least_irreducible(F5, 3), least_irreducible(F5, 4)):
            papers.append(irreducible_paper(f))
        rows = vectors(F5, 1) + [()]
        papers.extend([("irreducible", (pair,)) for pair in product(rows, repeat=2)])
        for f, paper in product(others, papers):
            self.assertIs(takes_irreducible(f, paper), False, (str(f), paper))

    def test_products_of_irreducible_ones_of_one_degree(self):
        # Such products divide x^(q^n) - x for the n that their degrees divide, so only the pairs tell.
        for f in ([poly(F2, 1, 1, 0, 1), poly(F2, 1, 0, 1, 1)], [poly(F2, 0, 1), poly(F2, 1, 1)],
                  [poly(F2, 1, 1, 1), poly(F2, 0, 1), poly(F2, 1, 1)]):
            whole = multiplied(F2, f)
            rows = [g.row for g in polys_below(F2, 3)]
            for pairs in product(product(rows, repeat=2), repeat=len(primes_of(whole.degree()))):
                self.assertIs(takes_irreducible(whole, ("irreducible", tuple(pairs))), False)

    def test_pairs_that_fit_a_product(self):
        # A product of the degrees 2 and 3 is coprime to x^q - x, but does not divide x^(q^5) - x.
        fitting = 0
        for field, degrees in ((F2, range(1, 8)), (F3, range(1, 6)), (F4, range(1, 4))):
            for degree in degrees:
                irreducible = [f.row for f in irreducible_by_trial(field, degree)]
                for f in monic_polys(field, degree):
                    told = [cofactors(f, (power_of_x(f, degree // divisor) - variable(field)) % f)
                            for divisor in primes_of(degree)]
                    pairs = tuple((u.row, v.row) for _, u, v in told)
                    self.assertIs(takes_irreducible(f, ("irreducible", pairs)), f.row in irreducible, str(f))
                    if f.row not in irreducible and all(d.degree() == 0 for d, _, _ in told):
                        fitting += 1
        self.assertGreater(fitting, 0)

    def test_strange_values(self):
        for f in (poly(F2, 1, 1), poly(F2, 1, 1, 1), Poly(F2, ()), poly(F2, 1), least_irreducible(F9, 2)):
            for paper in (*STRANGE, deep(5000), ("irreducible", deep(5000)), ("irreducible", (deep(5000),))):
                if not (f.degree() == 1 and paper == ("irreducible", ())):
                    self.assertIs(takes_irreducible(f, paper), False)

    def test_members_of_other_fields(self):
        f = least_irreducible(F4, 2)
        for other in (F2, F9, F16, Field(2, (1, 1, 0, 1))):
            self.assertIs(takes_irreducible(f, irreducible_paper(least_irreducible(other, 2))), False)


class TestTakesFactors(unittest.TestCase):
    def test_its_papers(self):
        for field, length in ((F2, 7), (F3, 4), (F4, 3), (F5, 3)):
            for f in polys_below(field, length):
                if f.row:
                    self.assertIs(takes_factors(f, factors_paper(f)), True)

    def test_it_takes_a_paper_of_no_other_polynomial(self):
        for field, length in ((F2, 5), (F3, 3)):
            found = [f for f in polys_below(field, length) if f.row]
            papers = [factors_paper(f) for f in found]
            for f, (g, paper) in product(polys_below(field, length), zip(found, papers)):
                self.assertIs(takes_factors(f, paper), f.row == g.row)

    def test_one_thing_wrong(self):
        for f in (poly(F2, 1), poly(F9, 5), poly(F2, 0, 0, 1, 1), poly(F5, 0, 2, 1, 4), poly(F4, 2, 0, 3),
                  poly(F2, 1, 1, 1) * poly(F2, 1, 1, 1) * poly(F2, 0, 1), least_irreducible(F3, 2).scaled((2,))):
            for paper in changes(factors_paper(f)):
                taken = takes_factors(f, paper)
                self.assertIs(taken, right_factors(f.field, f.row, paper), (str(f), paper))

    def test_the_order_of_the_factors(self):
        f = multiplied(F3, [poly(F3, 0, 1), poly(F3, 1, 1), poly(F3, 1, 1), poly(F3, 1, 0, 1)])
        _, leading, parts = factors_paper(f)
        self.assertEqual(len(parts), 3)
        for other in permutations(parts):
            self.assertIs(takes_factors(f, ("factors", leading, other)), other == parts)

    def test_a_factor_twice(self):
        f = multiplied(F3, [poly(F3, 1, 1)] * 2)
        _, leading, ((row, k, inner),) = factors_paper(f)
        self.assertEqual(k, 2)
        self.assertIs(takes_factors(f, ("factors", leading, ((row, 1, inner), (row, 1, inner)))), False)

    def test_factors_that_are_not_irreducible(self):
        f = multiplied(F3, [poly(F3, 1, 1), poly(F3, 2, 1)])
        for inner in (("irreducible", ()), ("irreducible", (((), ()),)), None):
            self.assertIs(takes_factors(f, ("factors", (1,), ((f.row, 1, inner),))), False)

    def test_exponents(self):
        f = multiplied(F3, [poly(F3, 1, 1)] * 3).scaled((2,))
        _, leading, ((row, k, inner),) = factors_paper(f)
        for other in (*range(-4, 8), 10**30, -(10**30), 10**300, True, False, "3", None, (3,), [3]):
            taken = takes_factors(f, ("factors", leading, ((row, other, inner),)))
            self.assertIs(taken, other == 3 and not isinstance(other, bool))
        single = poly(F3, 1, 1)
        self.assertIs(takes_factors(single, ("factors", (1,), ((row, 1, inner),))), True)
        self.assertIs(takes_factors(single, ("factors", (1,), ((row, True, inner),))), False)

    def test_great_exponents_end(self):
        inner = ("irreducible", ())
        for f in (Poly(F2, ()), poly(F2, 1), poly(F2, 0, 1), poly(F2, 0, 0, 1)):
            for row in ((), members(F2, 1), members(F2, 0, 1), members(F2, 1, 1)):
                for k in (10**9, 10**30, 10**300):
                    parts = ((row, k, inner),)
                    self.assertIs(takes_factors(f, ("factors", (1,), parts)), False)
                    # A row of degree -1 must not make up for a great degree.
                    parts = (((), k, inner), (members(F2, 0, 1), k + 1, inner))
                    self.assertIs(takes_factors(f, ("factors", (1,), parts)), False)

    def test_another_leading_member(self):
        f = poly(F9, 0, 5)
        _, leading, parts = factors_paper(f)
        for other in F9.members():
            self.assertIs(takes_factors(f, ("factors", other, parts)), other == leading)

    def test_constants(self):
        for field in (F2, F9):
            for a, b in product(list(field.members())[1:], repeat=2):
                self.assertIs(takes_factors(constant(field, a), ("factors", b, ())), a == b)
            one = field.one()
            parts = (((one,), 1, ("irreducible", ())),)
            self.assertIs(takes_factors(constant(field, one), ("factors", one, parts)), False)

    def test_zero_has_no_paper(self):
        for field in (F2, F9):
            for paper in (("factors", field.zero(), ()), ("factors", field.one(), ()), *STRANGE):
                self.assertIs(takes_factors(Poly(field, ()), paper), False)

    def test_strange_values(self):
        for f in (poly(F2, 1), poly(F2, 0, 1), poly(F4, 1, 1), least_irreducible(F9, 2)):
            for paper in (*STRANGE, deep(5000), ("factors", deep(5000), ()), ("factors", f.leading(), deep(5000)),
                          ("factors", f.leading(), ((f.row, 1, deep(5000)),))):
                self.assertIs(takes_factors(f, paper), False, paper)


class TestTakesMaps(unittest.TestCase):
    FIELDS = (F2, OTHER2, F3, F4, OTHER4, F5, F8, F9, OTHER9, F16, F25, F27, F81, F256, F397)

    def test_its_papers(self):
        for a, b in product(self.FIELDS, repeat=2):
            self.assertIs(takes_maps(a, b, maps_paper(a, b)), True)

    def test_all_pairs_of_images(self):
        for a, b in ((F4, F4), (F4, OTHER4), (F9, OTHER9), (OTHER9, F9)):
            right = maps_paper(a, b)[1]
            for images in product(b.members(), repeat=2):
                self.assertIs(takes_maps(a, b, ("maps", images)), images == right)

    def test_one_thing_wrong(self):
        for a, b in ((F2, OTHER2), (F4, F4), (F9, OTHER9), (F8, F8), (F4, F16), (F2, F3), (F16, F81)):
            for paper in changes(maps_paper(a, b)):
                self.assertIs(takes_maps(a, b, paper), right_maps(a, b, paper), paper)

    def test_unsorted_twice_and_one_missing(self):
        right = maps_paper(F27, F27)[1]
        self.assertEqual(len(right), 3)
        for images in product(right, repeat=3):
            self.assertIs(takes_maps(F27, F27, ("maps", images)), images == right)
        for images in (*product(right, repeat=2), (*right, right[2]), right[:1], ()):
            self.assertIs(takes_maps(F27, F27, ("maps", images)), False)

    def test_members_that_are_no_roots(self):
        for images in product(F8.members(), repeat=3):
            self.assertIs(takes_maps(F8, F8, ("maps", images)), right_maps(F8, F8, ("maps", images)))

    def test_unlike_sizes(self):
        for a, b in ((F4, F16), (F16, F4), (F2, F3), (F8, F9), (F9, F81)):
            self.assertIs(takes_maps(a, b, ("maps", ())), True)
            for images in ([], None, (b.one(),), (b.generator(),), ((),), 0, False):
                self.assertIs(takes_maps(a, b, ("maps", images)), False)
        self.assertIs(takes_maps(F4, F16, ("maps", members(F16, 12, 13))), False)
        self.assertIs(takes_maps(F4, F4, ("maps", ())), False)

    def test_strange_values(self):
        for a, b in ((F4, F4), (F2, F2), (F4, F16), (F2, F3)):
            for paper in (*STRANGE, deep(5000), ("maps", deep(5000)), ("maps", (deep(5000), deep(5000)))):
                self.assertIs(takes_maps(a, b, paper), False, paper)


class TestTakesOrder(unittest.TestCase):
    FIELDS = (F2, F3, F4, F5, F7, F8, F9, F16, F25, F27)

    def test_its_papers(self):
        for field in (*self.FIELDS, F256, F397):
            for a in list(field.members())[1:]:
                self.assertIs(takes_order(field, a, order_paper(field, a)), True)

    def test_every_number_with_its_primes(self):
        for field in self.FIELDS:
            for a in field.members():
                order = len(walked_powers(field, a)) if any(a) else None
                for m in range(1, 2 * field.q):
                    taken = takes_order(field, a, ("order", m, tuple(primes_of(m))))
                    self.assertIs(taken, m == order)

    def test_one_thing_wrong(self):
        for field, a in ((F2, (1,)), (F7, (3,)), (F9, (1, 1)), (F16, (0, 1, 0, 0)), (F25, F25.generator())):
            for paper in changes(order_paper(field, a)):
                self.assertIs(takes_order(field, a, paper), right_order(field, a, paper), paper)

    def test_primes(self):
        for primes in ((), (2,), (3,), (3, 2), (2, 3, 3), (2, 2, 3), (2, 3, 5), (2, 6), (6,), (1, 2, 3), (-2, 3),
                       [2, 3]):
            self.assertIs(takes_order(F7, (3,), ("order", 6, primes)), False)
        self.assertIs(takes_order(F7, (3,), ("order", 6, (2, 3))), True)
        self.assertIs(takes_order(F7, (1,), ("order", 1, ())), True)
        self.assertIs(takes_order(F7, (1,), ("order", 1, (1,))), False)
        self.assertIs(takes_order(F7, (1,), ("order", True, ())), False)

    def test_numbers_beyond(self):
        for m, primes in ((0, ()), (-1, ()), (12, (2, 3)), (7, (7,)), (10**30, (2, 5)), (10**300, (2, 5)),
                          (2**89 - 1, ())):
            self.assertIs(takes_order(F7, (3,), ("order", m, primes)), False)
            self.assertIs(takes_order(F7, (1,), ("order", m, primes)), False)

    def test_zero_and_values_that_are_no_members(self):
        for field in self.FIELDS:
            for a in (field.zero(), (field.p,) * field.n, (1,) * (field.n + 1), [1] * field.n, (True,) * field.n):
                for m in range(1, field.q):
                    self.assertIs(takes_order(field, a, ("order", m, tuple(primes_of(m)))), False)
        for a in STRANGE:
            for m in (1, 2, 4, 8):
                paper = ("order", m, tuple(primes_of(m)))
                self.assertIs(takes_order(F9, a, paper), right_order(F9, a, paper))

    def test_strange_values(self):
        for field in (F2, F9):
            for paper in (*STRANGE, deep(5000), ("order", deep(5000), ()), ("order", 1, deep(5000))):
                for a in (field.one(), field.generator(), None, deep(5000)):
                    self.assertIs(takes_order(field, a, paper), False)


class TestTakesRecurrence(unittest.TestCase):
    def cases(self):
        for field, many in ((F2, 7), (F3, 5), (F4, 4)):
            for count in range(many + 1):
                for terms in vectors(field, count):
                    try:
                        yield field, terms, recurrence_paper(field, terms)
                    except Refused:
                        continue

    def test_its_papers(self):
        for field, terms, paper in self.cases():
            self.assertIs(takes_recurrence(field, terms, paper), True)

    def test_one_thing_wrong(self):
        for field, *numbers in ((F2, 0, 1, 1, 0, 1), (F5, 0, 1, 1, 3), (F9, 3, 1), (F4, 0, 0), (F2,), (F3, 1, 1, 1)):
            terms = members(field, *numbers)
            for paper in changes(recurrence_paper(field, terms)):
                taken = takes_recurrence(field, terms, paper)
                self.assertIs(taken, right_recurrence(field, terms, paper), (terms, paper))

    def test_other_terms(self):
        for field, *numbers in ((F2, 0, 1, 1, 0, 1), (F5, 0, 1, 1, 3), (F9, 3, 1), (F4, 0, 0), (F2,), (F3, 1, 1, 1)):
            terms = members(field, *numbers)
            paper = recurrence_paper(field, terms)
            for other in (*changes(terms), *STRANGE, deep(5000)):
                taken = takes_recurrence(field, other, paper)
                self.assertIs(taken, right_recurrence(field, other, paper), (other, paper))

    def test_one_term_changed(self):
        r = Recurrence(F9, members(F9, 4, 2, 7))
        terms = tuple(r.terms(members(F9, 1, 0, 5), 12))
        paper = recurrence_paper(F9, terms)
        self.assertIs(takes_recurrence(F9, terms, paper), True)
        for at in range(12):
            changed = terms[:at] + (F9.add(terms[at], F9.one()),) + terms[at + 1:]
            self.assertIs(takes_recurrence(F9, changed, paper), False)

    def test_fewer_terms_than_two_a_multiple(self):
        r = Recurrence(F9, members(F9, 4, 2, 7))
        terms = tuple(r.terms(members(F9, 1, 0, 5), 8))
        paper = recurrence_paper(F9, terms)
        for count in range(9):
            self.assertIs(takes_recurrence(F9, terms[:count], paper), count >= 6)

    def test_a_longer_recurrence_is_not_taken(self):
        # The row has the least length 1, so that no weights fit the recurrences of the length 2.
        terms = members(F3, 1, 2, 1, 2, 1)
        for multiples in vectors(F3, 2):
            for weights in product(vectors(F3, 2), repeat=2):
                self.assertIs(takes_recurrence(F3, terms, ("recurrence", multiples, weights)), False)
        self.assertIs(takes_recurrence(F3, terms, recurrence_paper(F3, terms)), True)

    def test_weights_of_another_size(self):
        terms = members(F5, 0, 1, 1, 3)
        _, multiples, weights = recurrence_paper(F5, terms)
        zero = F5.zero()
        for other in ((), weights[:1], (*weights, weights[0]), tuple(row[:1] for row in weights),
                      tuple((*row, zero) for row in weights), weights[::-1], (weights[0], ()), ((), ())):
            self.assertIs(takes_recurrence(F5, terms, ("recurrence", multiples, other)), False)

    def test_the_length_zero(self):
        paper = ("recurrence", (), ())
        for count in range(4):
            for terms in vectors(F3, count):
                self.assertIs(takes_recurrence(F3, terms, paper), not any(any(a) for a in terms))

    def test_strange_values(self):
        for terms in (members(F5, 0, 1, 1, 3), members(F5, 3, 1), members(F5, 0, 0)):
            for paper in (*STRANGE, deep(5000), ("recurrence", deep(5000), ()), ("recurrence", (), deep(5000))):
                self.assertIs(takes_recurrence(F5, terms, paper), False)


class TestItsImports(unittest.TestCase):
    def test_no_function_of_chapters_3_to_6(self):
        text = Path(checker.__file__).read_text(encoding="utf-8")
        modules = {node.module for node in ast.walk(ast.parse(text)) if isinstance(node, ast.ImportFrom)}
        before = {f"fieldmaps.{name}" for name in ("errors", "whole", "linear", "rows", "field", "poly")}
        self.assertLessEqual(modules, before)


class TestMonicPolynomials(unittest.TestCase):
    def test_a_paper_of_factors_shows_irreducible_ones(self):
        for field, degree in ((F2, 5), (F3, 3)):
            for f in monic_polys(field, degree):
                one = field.one()
                for g in irreducible_by_trial(field, degree):
                    paper = ("factors", one, ((g.row, 1, irreducible_paper(g)),))
                    self.assertIs(takes_factors(f, paper), f.row == g.row)


if __name__ == "__main__":
    unittest.main()

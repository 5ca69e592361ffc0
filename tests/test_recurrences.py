"""Points 6.1 to 6.6 and the interface of fieldmaps.recurrences."""

import inspect
import unittest
from itertools import product
from math import lcm

from fieldmaps.errors import Malformed, Refused
from fieldmaps.field import Field
from fieldmaps.irreducible import all_irreducible, least_irreducible
from fieldmaps.linear import reduced, solve
from fieldmaps.poly import Poly, constant, monomial, variable
from fieldmaps.recurrences import Recurrence, least_recurrence, order_of_x
from tests.plain import (
    F2,
    F3,
    F4,
    F5,
    F7,
    F9,
    F256,
    F397,
    ODD_VALUES,
    members,
    monic_polys,
    multiplied,
    poly,
    vectors,
)

FIELDS = (F2, F3, F4, F5, F9)


def recurrence(field, *numbers):
    return Recurrence(field, members(field, *numbers))


def combined(field, multiples, row):
    total = field.zero()
    for c, s in zip(multiples, row):
        total = field.add(total, field.multiply(c, s))
    return total


def walked(field, multiples, first, count):
    """The first terms of the endless row, each from those before it."""
    row = list(first)
    while len(row) < count:
        row.append(combined(field, multiples, row[len(row) - len(multiples):]))
    return tuple(row[:count])


def satisfies(field, multiples, row):
    length = len(multiples)
    return all(row[k + length] == combined(field, multiples, row[k:k + length]) for k in range(len(row) - length))


def walked_period(field, multiples, first):
    """The beginning and the period of the states, L terms beside one another, each from the one before."""
    places = {}
    state = tuple(first)
    while state not in places:
        places[state] = len(places)
        state = (*state, combined(field, multiples, state))[1:]
    return places[state], len(places) - places[state]


def small_cases():
    """Recurrences of small lengths over small fields, each with rows of first terms."""
    found = []
    for field, length in ((F2, 0), (F2, 1), (F2, 2), (F2, 3), (F3, 0), (F3, 1), (F3, 2), (F4, 1), (F4, 2), (F5, 1)):
        for multiples, first in product(vectors(field, length), repeat=2):
            found.append((field, multiples, first))
    return found


CASES = small_cases()


class TestMaking(unittest.TestCase):
    def test_lists_and_tuples(self):
        for kind in (list, tuple):
            r = Recurrence(F4, kind([(1, 0), (0, 0)]))
            self.assertEqual(r.multiples, ((1, 0), (0, 0)))
            self.assertIsInstance(r.multiples, tuple)
            self.assertEqual(r.field, F4)
        self.assertEqual(Recurrence(F4, []).multiples, ())
        self.assertEqual(Recurrence(F4, ()).multiples, ())

    def test_a_list_is_copied(self):
        multiples = [(1, 0)]
        r = Recurrence(F4, multiples)
        multiples[0] = (0, 0)
        self.assertEqual(r.multiples, ((1, 0),))

    def test_items_that_are_no_members(self):
        for item in (*ODD_VALUES, (3, 0), (0, -1), (1,), (True, 0), [0, 0], F9, variable(F9)):
            if item != (0, 1):
                for multiples in ([item], (item,), [(1, 0), item], (item, (1, 0))):
                    with self.assertRaises(Malformed, msg=multiples):
                        Recurrence(F9, multiples)


class TestEquality(unittest.TestCase):
    def test_equal_ones(self):
        self.assertIs(recurrence(F4, 1, 2) == Recurrence(Field(2, [1, 1, 1]), [(1, 0), (0, 1)]), True)
        self.assertIs(recurrence(F4, 1, 2) != recurrence(F4, 1, 2), False)
        self.assertTrue(recurrence(F2) == Recurrence(F2, []))

    def test_unequal_ones(self):
        self.assertIs(recurrence(F4, 1, 2) == recurrence(F4, 2, 1), False)
        self.assertIs(recurrence(F4, 1) == recurrence(F4, 1, 0), False)
        self.assertIs(recurrence(F4, 1) == recurrence(F4, 0, 1), False)
        self.assertIs(recurrence(F2) == recurrence(F3), False)
        self.assertIs(recurrence(F2, 1) == recurrence(Field(2, (1, 1)), 1), False)

    def test_values_that_are_none(self):
        for r in (recurrence(F2), recurrence(F4, 1, 2)):
            for value in (*ODD_VALUES, r.multiples, list(r.multiples), r.polynomial(), F2, r.field):
                self.assertIs(r == value, False, value)
                self.assertTrue(r != value)

    def test_length(self):
        for numbers in ((), (0,), (1, 0), (3, 2, 1)):
            self.assertEqual(len(recurrence(F4, *numbers)), len(numbers))


class TestPolynomial(unittest.TestCase):
    def test_every_small_one(self):
        for field, multiples, _ in CASES:
            f = Recurrence(field, multiples).polynomial()
            self.assertIsInstance(f, Poly)
            self.assertEqual(f.field, field)
            self.assertEqual(f.row, (*[field.negative(c) for c in multiples], field.one()))

    def test_examples(self):
        self.assertEqual(recurrence(F5).polynomial(), constant(F5, (1,)))
        self.assertEqual(recurrence(F5, 2, 1).polynomial(), poly(F5, 3, 4, 1))
        self.assertEqual(recurrence(F5, 0, 0).polynomial(), monomial(F5, (1,), 2))


class TestTerms(unittest.TestCase):
    def test_every_small_row(self):
        for field, multiples, first in CASES:
            r = Recurrence(field, multiples)
            for count in range(9):
                self.assertEqual(tuple(r.terms(first, count)), walked(field, multiples, first, count))

    def test_a_generator(self):
        r = recurrence(F5, 2, 1)
        self.assertTrue(inspect.isgenerator(r.terms(members(F5, 0, 1), 8)))
        endless = r.terms(members(F5, 0, 1), 10**30)
        self.assertEqual([next(endless)[0] for _ in range(8)], [0, 1, 1, 3, 0, 1, 1, 3])

    def test_a_list_of_first_terms(self):
        r = recurrence(F5, 2, 1)
        first = list(members(F5, 0, 1))
        self.assertEqual(list(r.terms(first, 8)), list(r.terms(tuple(first), 8)))
        self.assertEqual(first, list(members(F5, 0, 1)))

    def test_the_length_zero(self):
        self.assertEqual(list(recurrence(F9).terms((), 3)), [(0, 0)] * 3)
        self.assertEqual(list(recurrence(F9).terms([], 0)), [])

    def test_less_than_the_first_terms(self):
        r = recurrence(F5, 2, 1, 3)
        self.assertEqual(list(r.terms(members(F5, 4, 3, 2), 2)), [(4,), (3,)])
        self.assertEqual(list(r.terms(members(F5, 4, 3, 2), 0)), [])


class TestTerm(unittest.TestCase):
    def test_against_the_terms(self):
        for field, multiples, first in CASES:
            r = Recurrence(field, multiples)
            row = walked(field, multiples, first, 12)
            for k in range(12):
                self.assertEqual(r.term(first, k), row[k])
                self.assertEqual(r.term(list(first), k), row[k])

    def test_longer_recurrences(self):
        for field in FIELDS:
            top = field.q - 1
            r = recurrence(field, 1, 0, top, 0, top // 2)
            row = walked(field, r.multiples, members(field, top, 0, 1, 0, top), 40)
            self.assertEqual([r.term(row[:5], k) for k in range(40)], list(row))

    def test_large_k(self):
        for field, multiples, first in CASES:
            beginning, period = walked_period(field, multiples, first)
            row = walked(field, multiples, first, beginning + period)
            r = Recurrence(field, multiples)
            for k in (10**30, 10**30 + 7):
                self.assertEqual(r.term(first, k), row[beginning + (k - beginning) % period])

    def test_the_length_zero(self):
        for k in (0, 1, 10**30):
            self.assertEqual(recurrence(F9).term((), k), (0, 0))


class TestFirstTermsThatAreNone(unittest.TestCase):
    def bad_firsts(self, field, length):
        good = [field.one()] * length
        good_ones = {0: ([], ()), 1: (((0, 1),),)}.get(length, ())
        found = [value for value in ODD_VALUES if value not in good_ones]
        found.extend([good + [field.zero()], tuple(good) + (field.zero(),), field, variable(field), {}, "ab"])
        if length > 0:
            found.extend([good[1:], tuple(good[1:]), (), []])
            for item in (None, 0, True, [0], (field.p,) * field.n, (0,) * (field.n + 1), field):
                found.extend([[item] + good[1:], tuple(good[1:]) + (item,)])
        return found

    def test_malformed(self):
        for r in (recurrence(F9), recurrence(F9, 1), recurrence(F9, 1, 2), recurrence(F9, 1, 0, 1)):
            for first in self.bad_firsts(F9, len(r)):
                for call in (lambda: r.term(first, 0), lambda: r.least(first), lambda: r.period(first)):
                    with self.assertRaises(Malformed, msg=first):
                        call()

    def test_terms_only_when_it_is_first_iterated(self):
        for r in (recurrence(F9), recurrence(F9, 1), recurrence(F9, 1, 2)):
            for first in self.bad_firsts(F9, len(r)):
                for count in (0, 1, 5):
                    told = r.terms(first, count)
                    with self.assertRaises(Malformed, msg=first):
                        next(told)


class TestIsSatisfied(unittest.TestCase):
    def test_every_small_row(self):
        for field, length, many in ((F2, 0, 3), (F2, 1, 4), (F2, 2, 5), (F3, 1, 3), (F3, 2, 4)):
            for multiples in vectors(field, length):
                r = Recurrence(field, multiples)
                for count in range(many + 1):
                    for row in vectors(field, count):
                        self.assertIs(r.is_satisfied(row), satisfies(field, multiples, row))

    def test_rows_no_longer_than_the_length(self):
        r = recurrence(F9, 1, 2, 3)
        for numbers in ((), (5,), (5, 7), (5, 7, 8)):
            self.assertIs(r.is_satisfied(members(F9, *numbers)), True)
        self.assertIs(recurrence(F9).is_satisfied(()), True)

    def test_one_term_changed(self):
        r = recurrence(F9, 4, 2)
        row = walked(F9, r.multiples, members(F9, 1, 5), 9)
        self.assertIs(r.is_satisfied(row), True)
        for at in range(9):
            changed = row[:at] + (F9.add(row[at], F9.one()),) + row[at + 1:]
            self.assertIs(r.is_satisfied(changed), False)

    def test_the_length_zero(self):
        self.assertIs(recurrence(F9).is_satisfied(members(F9, 0, 0)), True)
        self.assertIs(recurrence(F9).is_satisfied(members(F9, 0, 0, 1)), False)


def by_elimination(field, row):
    """The multiples that the equations give for the first length that has some, each length tried."""
    for length in range(len(row) + 1):
        rows = tuple(tuple(row[k:k + length]) for k in range(len(row) - length))
        found = solve(field, rows, length, tuple(row[length:]))
        if found is not None:
            return found
    return None


class TestLeastRecurrence(unittest.TestCase):
    def rows(self):
        for field, many in ((F2, 8), (F3, 5), (F4, 4), (F5, 3)):
            for count in range(many + 1):
                for row in vectors(field, count):
                    yield field, row

    def test_against_elimination_for_each_length(self):
        for field, row in self.rows():
            found = least_recurrence(field, row)
            self.assertIsInstance(found, tuple)
            self.assertEqual(found, by_elimination(field, row), row)

    def test_it_is_satisfied_and_no_shorter_one_is(self):
        for field, many in ((F2, 7), (F3, 4)):
            for count in range(many + 1):
                for row in vectors(field, count):
                    length = len(least_recurrence(field, row))
                    self.assertTrue(satisfies(field, least_recurrence(field, row), row))
                    for shorter in range(length):
                        self.assertFalse(any(satisfies(field, c, row) for c in vectors(field, shorter)))

    def test_zeros_in_the_free_columns(self):
        seen = 0
        for field, row in self.rows():
            found = least_recurrence(field, row)
            length = len(found)
            equations = tuple(tuple(row[k:k + length]) for k in range(len(row) - length))
            pivots = reduced(field, equations, length)[1]
            for column in range(length):
                if column not in pivots:
                    self.assertEqual(found[column], field.zero())
                    self.assertGreater(2 * length, len(row))
                    seen += 1
        self.assertGreater(seen, 0)

    def test_only_one_if_there_are_two_terms_a_multiple(self):
        for count in range(7):
            for row in vectors(F2, count):
                length = len(least_recurrence(F2, row))
                if 2 * length <= count:
                    self.assertEqual(sum(satisfies(F2, c, row) for c in vectors(F2, length)), 1)

    def test_examples(self):
        self.assertEqual(least_recurrence(F9, ()), ())
        self.assertEqual(least_recurrence(F9, members(F9, 0, 0, 0)), ())
        self.assertEqual(least_recurrence(F9, members(F9, 0, 0, 1)), members(F9, 0, 0, 0))
        self.assertEqual(least_recurrence(F9, members(F9, 5)), members(F9, 0))
        self.assertEqual(least_recurrence(F5, members(F5, 1, 2, 4, 3)), members(F5, 2))
        self.assertEqual(least_recurrence(F5, members(F5, 0, 1, 1, 3, 0)), members(F5, 2, 1))
        self.assertEqual(least_recurrence(F5, members(F5, 1, 0, 0)), members(F5, 0))

    def test_long_rows(self):
        for field in (F2, F9, F256):
            top = field.q - 1
            multiples = members(field, 1, 0, top, 0, 0, top // 2, 1)
            row = walked(field, multiples, members(field, 0, 0, 0, 0, 0, 0, top), 60)
            self.assertEqual(least_recurrence(field, row), multiples)


class TestLeast(unittest.TestCase):
    def test_against_the_first_terms(self):
        for field, multiples, first in CASES:
            least = Recurrence(field, multiples).least(first)
            self.assertIsInstance(least, Recurrence)
            self.assertEqual(least.field, field)
            many = walked(field, multiples, first, 2 * len(multiples))
            self.assertEqual(least.multiples, by_elimination(field, many))

    def test_it_holds_for_the_whole_row_and_divides(self):
        for field, multiples, first in CASES:
            r = Recurrence(field, multiples)
            least = r.least(first)
            self.assertTrue(satisfies(field, least.multiples, walked(field, multiples, first, 20)))
            self.assertTrue((r.polynomial() % least.polynomial()).is_zero())

    def test_examples(self):
        self.assertEqual(recurrence(F9).least(()), recurrence(F9))
        self.assertEqual(recurrence(F5, 2, 1).least(members(F5, 0, 0)), recurrence(F5))
        self.assertEqual(recurrence(F5, 2, 1).least(members(F5, 1, 2)), recurrence(F5, 2))
        self.assertEqual(recurrence(F5, 2, 1).least(list(members(F5, 0, 1))), recurrence(F5, 2, 1))


class TestPeriod(unittest.TestCase):
    def test_against_walking_the_states(self):
        for field, multiples, first in CASES:
            found = Recurrence(field, multiples).period(first)
            self.assertEqual(found, walked_period(field, multiples, first), (field.q, multiples, first))

    def test_longer_ones(self):
        for field, *numbers in ((F2, 1, 0, 0, 1), (F2, 0, 0, 1, 1), (F2, 1, 1, 1, 1, 1), (F3, 0, 2, 0), (F3, 1, 0, 2),
                                (F4, 0, 2, 3), (F9, 4, 5), (F9, 0, 7)):
            r = recurrence(field, *numbers)
            for first in ([0] * (len(r) - 1) + [1], [1] * len(r), [1] + [0] * (len(r) - 1)):
                row = members(field, *first)
                self.assertEqual(r.period(row), walked_period(field, r.multiples, row))
                self.assertEqual(r.period(list(row)), r.period(row))

    def test_a_beginning_other_than_zero(self):
        self.assertEqual(recurrence(F5, 0).period(members(F5, 3)), (1, 1))
        self.assertEqual(recurrence(F5, 0, 0, 0).period(members(F5, 0, 0, 2)), (3, 1))
        self.assertEqual(recurrence(F5, 0, 2).period(members(F5, 4, 1)), (1, 4))

    def test_rows_of_zeros(self):
        self.assertEqual(recurrence(F9).period(()), (0, 1))
        self.assertEqual(recurrence(F9, 4, 5).period(members(F9, 0, 0)), (0, 1))

    def test_examples(self):
        self.assertEqual(recurrence(F2, 1, 1).period(members(F2, 0, 1)), (0, 3))
        self.assertEqual(recurrence(F5, 2, 1).period(members(F5, 0, 1)), (0, 4))

    def test_large(self):
        r = Recurrence(F2, tuple(F2.integer(item in (0, 3)) for item in range(20)))
        with self.assertRaises(Refused) as caught:
            r.period(members(F2, *[0] * 19, 1))
        self.assertEqual(caught.exception.reason, "large")
        self.assertEqual(r.period(members(F2, *[0] * 20)), (0, 1))


def walked_order(f):
    """The least e from 1 on with x^e one modulo f, by products with x one after the other."""
    one = constant(f.field, f.field.one()) % f
    x = variable(f.field)
    power, e = x % f, 1
    while power != one:
        power, e = power * x % f, e + 1
    return e


class TestOrderOfX(unittest.TestCase):
    def test_against_walking_the_powers(self):
        for field, degree in ((F2, 6), (F3, 3), (F4, 3), (F5, 2), (F9, 1)):
            for k in range(degree + 1):
                for f in monic_polys(field, k):
                    if f.coefficient(0) != field.zero():
                        self.assertEqual(order_of_x(f), walked_order(f), str(f))

    def test_polynomials_that_are_not_monic(self):
        for f in monic_polys(F5, 2):
            if f.coefficient(0) != (0,):
                for number in range(1, 5):
                    self.assertEqual(order_of_x(f.scaled((number,))), order_of_x(f))

    def test_constants(self):
        for field in FIELDS:
            for a in list(field.members())[1:]:
                self.assertEqual(order_of_x(constant(field, a)), 1)

    def test_x_times_something_and_zero(self):
        for field in (*FIELDS, F397):
            for f in (Poly(field, ()), variable(field), monomial(field, field.one(), 3), poly(field, 0, 1, 1)):
                with self.assertRaises(Refused) as caught:
                    order_of_x(f)
                self.assertEqual(caught.exception.reason, "constant")

    def test_irreducible_ones(self):
        for field, degree in ((F2, 7), (F3, 4), (F4, 3), (F7, 2)):
            for f in all_irreducible(field, degree):
                self.assertEqual((field.q**degree - 1) % order_of_x(f), 0)
                self.assertEqual(order_of_x(f), walked_order(f))

    def test_powers_of_irreducible_ones(self):
        for field, degree in ((F2, 1), (F2, 2), (F2, 3), (F3, 1), (F3, 2), (F5, 1)):
            for g in all_irreducible(field, degree):
                if g.coefficient(0) != field.zero():
                    single = walked_order(g)
                    for k, times in ((1, 1), (2, field.p), (field.p, field.p), (field.p + 1, field.p**2)):
                        f = multiplied(field, [g] * k)
                        self.assertEqual(order_of_x(f), single * times)
                        self.assertEqual(order_of_x(f), walked_order(f))

    def test_products_of_coprime_ones(self):
        for field in (F2, F3):
            found = [g for degree in (1, 2, 3) for g in all_irreducible(field, degree)][1:]
            for f, g in product(found, repeat=2):
                if f != g and f != variable(field) and g != variable(field):
                    self.assertEqual(order_of_x(f * g), lcm(walked_order(f), walked_order(g)))
                    self.assertEqual(order_of_x(f * g * g), lcm(walked_order(f), walked_order(g * g)))

    def test_large(self):
        for field, degree in ((F2, 19), (F3, 12), (F397, 2)):
            f = least_irreducible(field, degree)
            e = order_of_x(f)
            self.assertEqual((field.q**degree - 1) % e, 0)
            self.assertEqual(variable(field).power_modulo(e, f), constant(field, field.one()))
        for field, degree in ((F2, 20), (F3, 13), (F397, 3), (F256, 3)):
            f = least_irreducible(field, degree)
            for g in (f, f * poly(field, 1, 1), f * f):
                with self.assertRaises(Refused) as caught:
                    order_of_x(g)
                self.assertEqual(caught.exception.reason, "large")

    def test_examples(self):
        self.assertEqual(order_of_x(poly(F2, 1, 1, 1)), 3)
        self.assertEqual(order_of_x(poly(F2, 1, 0, 0, 0, 0, 1)), 5)
        self.assertEqual(order_of_x(poly(F5, 4, 1)), 1)


if __name__ == "__main__":
    unittest.main()

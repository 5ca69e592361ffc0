"""Points 1.2 and 1.3 and the interface of fieldmaps.linear."""

import unittest
from itertools import permutations, product

from fieldmaps.linear import (
    combine,
    coordinates,
    determinant,
    dot,
    inverse_matrix,
    kernel,
    reduced,
    solve,
    unit_vector,
    windows,
)
from tests.small_fields import ALL_FIELDS, FIVE, FOUR, NINE, SEVEN, THREE, TWO, over, square_members, vector

# The members of the field of four: t is (0, 1), and t^2 = t + 1.
O4, I4, T4, S4 = (0, 0), (1, 0), (0, 1), (1, 1)


def vectors(members, width):
    return product(members, repeat=width)


def matrices(members, height, width):
    return product(list(vectors(members, width)), repeat=height)


def plain_dot(field, a, b):
    total = field.zero()
    for at in range(len(a)):
        total = field.add(total, field.multiply(a[at], b[at]))
    return total


def plain_sum(field, rows, width, weights):
    return tuple(plain_dot(field, weights, [row[at] for row in rows]) for at in range(width))


def span(field, members, rows, width):
    return {plain_sum(field, rows, width, weights) for weights in vectors(members, len(rows))}


def by_permutations(field, rows):
    """The determinant by its definition, as the sum over all permutations."""
    total = field.zero()
    for order in permutations(range(len(rows))):
        term = field.one()
        for at, column in enumerate(order):
            term = field.multiply(term, rows[at][column])
        swaps = sum(1 for i in range(len(order)) for j in range(i) if order[j] > order[i])
        total = field.add(total, field.negative(term) if swaps % 2 else term)
    return total


def sample_matrices():
    """Triples (field, members, (rows, width)): every matrix of some sizes over the small fields."""
    for field, members in ALL_FIELDS:
        sizes = [(0, 0), (0, 3), (1, 0), (3, 0), (1, 1), (1, 2), (2, 1)]
        if len(members) <= 4:
            sizes.append((2, 2))
        if len(members) == 3:
            sizes.extend([(1, 3), (3, 1)])
        if len(members) == 2:
            sizes.extend([(2, 3), (3, 2), (3, 3), (4, 2), (2, 4)])
        for height, width in sizes:
            for rows in matrices(members, height, width):
                yield field, members, (rows, width)


class TestDot(unittest.TestCase):
    def test_length_zero(self):
        for field, _ in ALL_FIELDS:
            self.assertEqual(dot(field, (), ()), field.zero())

    def test_examples(self):
        self.assertEqual(dot(FIVE, vector(5, 1, 2, 3), vector(5, 4, 0, 2)), (0,))
        self.assertEqual(dot(SEVEN, vector(7, 6, 5), vector(7, 3, 4)), (3,))
        self.assertEqual(dot(FOUR, (T4, S4), (T4, I4)), O4)
        self.assertEqual(dot(FOUR, (T4, I4), (T4, T4)), I4)
        self.assertEqual(dot(NINE, ((0, 1),), ((0, 1),)), (2, 0))

    def test_all_pairs_of_two(self):
        for field, members in ((THREE, [(0,), (1,), (2,)]), (FOUR, square_members(2))):
            for a in vectors(members, 2):
                for b in vectors(members, 2):
                    self.assertEqual(dot(field, a, b), plain_dot(field, a, b))


class TestCombine(unittest.TestCase):
    def test_no_rows(self):
        self.assertEqual(combine(FIVE, (), 3, ()), vector(5, 0, 0, 0))
        self.assertEqual(combine(FOUR, (), 2, ()), (O4, O4))
        self.assertEqual(combine(FIVE, (), 0, ()), ())

    def test_width_zero(self):
        self.assertEqual(combine(FIVE, ((), ()), 0, vector(5, 2, 3)), ())

    def test_examples(self):
        rows = over(5, (1, 2, 3), (4, 0, 1))
        self.assertEqual(combine(FIVE, rows, 3, vector(5, 2, 3)), vector(5, 4, 4, 4))
        self.assertEqual(combine(FIVE, rows, 3, vector(5, 0, 0)), vector(5, 0, 0, 0))
        self.assertEqual(combine(FOUR, ((I4, T4), (T4, O4)), 2, (T4, S4)), (S4, S4))

    def test_all_weights(self):
        rows = (((1, 0), (0, 1), (2, 2)), ((1, 1), (0, 0), (2, 1)))
        for weights in vectors(square_members(3), 2):
            self.assertEqual(combine(NINE, rows, 3, weights), plain_sum(NINE, rows, 3, weights))


class TestReduced(unittest.TestCase):
    def check_form(self, field, rows, pivots, width):
        """Point 1.3, item by item."""
        self.assertIs(type(rows), tuple)
        self.assertIs(type(pivots), tuple)
        self.assertEqual(len(rows), len(pivots))
        self.assertEqual(list(pivots), sorted(set(pivots)))
        for at, row in enumerate(rows):
            self.assertIs(type(row), tuple)
            self.assertEqual(len(row), width)
            filled = [column for column in range(width) if row[column] != field.zero()]
            self.assertEqual(filled[0], pivots[at])
            self.assertEqual(row[pivots[at]], field.one())
            for other, other_row in enumerate(rows):
                if other != at:
                    self.assertEqual(other_row[pivots[at]], field.zero())

    def test_form_and_span_of_many_matrices(self):
        for field, members, (rows, width) in sample_matrices():
            result = reduced(field, rows, width)
            self.assertIs(type(result), tuple)
            done, pivots = result
            self.check_form(field, done, pivots, width)
            self.assertEqual(span(field, members, done, width), span(field, members, rows, width))

    def test_no_rows(self):
        for width in (0, 1, 4):
            self.assertEqual(reduced(FIVE, (), width), ((), ()))

    def test_width_zero(self):
        self.assertEqual(reduced(FIVE, ((),), 0), ((), ()))
        self.assertEqual(reduced(FOUR, ((), (), ()), 0), ((), ()))

    def test_rows_of_zeros(self):
        self.assertEqual(reduced(FIVE, over(5, (0, 0, 0)), 3), ((), ()))
        self.assertEqual(reduced(FIVE, over(5, (0, 0), (0, 0), (0, 0)), 2), ((), ()))
        self.assertEqual(reduced(FIVE, over(5, (0, 0), (0, 3), (0, 0)), 2), (over(5, (0, 1)), (1,)))

    def test_dependent_rows(self):
        rows = over(7, (1, 2, 3), (2, 4, 6), (3, 6, 2))
        self.assertEqual(reduced(SEVEN, rows, 3), (over(7, (1, 2, 3)), (0,)))
        rows = over(5, (1, 2, 3, 4), (0, 1, 1, 1), (1, 3, 4, 0))
        self.assertEqual(reduced(FIVE, rows, 4), (over(5, (1, 0, 1, 2), (0, 1, 1, 1)), (0, 1)))

    def test_more_rows_than_columns_and_fewer(self):
        rows = over(5, (0, 2), (3, 1), (1, 1))
        self.assertEqual(reduced(FIVE, rows, 2), (over(5, (1, 0), (0, 1)), (0, 1)))
        rows = over(5, (0, 2, 4, 1, 3), (0, 0, 0, 3, 1))
        self.assertEqual(reduced(FIVE, rows, 5), (over(5, (0, 1, 2, 0, 3), (0, 0, 0, 1, 2)), (1, 3)))

    def test_over_the_field_of_four(self):
        rows = ((O4, T4, I4), (T4, I4, O4))
        self.assertEqual(reduced(FOUR, rows, 3), (((I4, O4, T4), (O4, I4, S4)), (0, 1)))

    def test_one_answer_for_one_span(self):
        rows = over(5, (2, 1, 0, 4), (1, 1, 3, 3))
        changed = over(5, (1, 1, 3, 3), (3, 2, 3, 2), (4, 2, 0, 3))
        self.assertEqual(reduced(FIVE, rows, 4), reduced(FIVE, changed, 4))
        self.assertEqual(reduced(FIVE, rows, 4), reduced(FIVE, rows, 4))


class TestKernel(unittest.TestCase):
    def test_many_matrices(self):
        for field, members, (rows, width) in sample_matrices():
            found = kernel(field, rows, width)
            self.assertIs(type(found), tuple)
            _, pivots = reduced(field, rows, width)
            free = [column for column in range(width) if column not in pivots]
            self.assertEqual(len(found), len(free))
            for own, solution in zip(free, found):
                self.assertIs(type(solution), tuple)
                self.assertEqual(len(solution), width)
                for row in rows:
                    self.assertEqual(plain_dot(field, row, solution), field.zero())
                for column in free:
                    self.assertEqual(solution[column], field.one() if column == own else field.zero())

    def test_it_spans_all_solutions(self):
        for field, members, (rows, width) in sample_matrices():
            found = kernel(field, rows, width)
            solutions = {
                x for x in vectors(members, width)
                if all(plain_dot(field, row, x) == field.zero() for row in rows)
            }
            self.assertEqual(span(field, members, found, width), solutions)

    def test_no_rows(self):
        self.assertEqual(kernel(FIVE, (), 0), ())
        self.assertEqual(kernel(FIVE, (), 3), over(5, (1, 0, 0), (0, 1, 0), (0, 0, 1)))

    def test_width_zero(self):
        self.assertEqual(kernel(FIVE, ((), ()), 0), ())

    def test_rows_of_zeros(self):
        self.assertEqual(kernel(FOUR, ((O4, O4), (O4, O4)), 2), ((I4, O4), (O4, I4)))

    def test_full_rank(self):
        self.assertEqual(kernel(FIVE, over(5, (0, 2), (3, 1)), 2), ())
        self.assertEqual(kernel(FIVE, over(5, (0, 2), (3, 1), (1, 1)), 2), ())

    def test_order_of_the_free_columns(self):
        rows = over(5, (0, 2, 4, 1, 3), (0, 0, 0, 3, 1))
        expected = over(5, (1, 0, 0, 0, 0), (0, 3, 1, 0, 0), (0, 2, 0, 3, 1))
        self.assertEqual(kernel(FIVE, rows, 5), expected)

    def test_over_the_field_of_four(self):
        self.assertEqual(kernel(FOUR, ((T4, I4, O4),), 3), ((S4, I4, O4), (O4, O4, I4)))


class TestSolve(unittest.TestCase):
    def check(self, field, members, matrix, right):
        rows, width = matrix
        found = solve(field, rows, width, right)
        _, pivots = reduced(field, rows, width)
        solutions = [
            x for x in vectors(members, width)
            if all(plain_dot(field, row, x) == item for row, item in zip(rows, right))
            and all(x[column] == field.zero() for column in range(width) if column not in pivots)
        ]
        self.assertEqual([] if found is None else [found], solutions)

    def test_many_systems(self):
        for field, members, matrix in sample_matrices():
            if len(members) ** len(matrix[0]) <= 27:
                for right in vectors(members, len(matrix[0])):
                    self.check(field, members, matrix, right)

    def test_no_rows(self):
        self.assertEqual(solve(FIVE, (), 0, ()), ())
        self.assertEqual(solve(FIVE, (), 3, ()), vector(5, 0, 0, 0))

    def test_width_zero(self):
        self.assertEqual(solve(FIVE, ((), ()), 0, vector(5, 0, 0)), ())
        self.assertIsNone(solve(FIVE, ((), ()), 0, vector(5, 0, 2)))

    def test_rows_of_zeros(self):
        rows = over(5, (0, 0), (0, 0))
        self.assertEqual(solve(FIVE, rows, 2, vector(5, 0, 0)), vector(5, 0, 0))
        self.assertIsNone(solve(FIVE, rows, 2, vector(5, 0, 1)))
        self.assertIsNone(solve(FIVE, over(5, (0, 0), (1, 2)), 2, vector(5, 3, 1)))

    def test_zeros_in_the_free_columns(self):
        rows = over(5, (0, 2, 4, 1, 3), (0, 0, 0, 3, 1))
        self.assertEqual(solve(FIVE, rows, 5, vector(5, 1, 1)), vector(5, 0, 2, 0, 2, 0))

    def test_dependent_rows(self):
        rows = over(7, (1, 2, 3), (2, 4, 6))
        self.assertEqual(solve(SEVEN, rows, 3, vector(7, 3, 6)), vector(7, 3, 0, 0))
        self.assertIsNone(solve(SEVEN, rows, 3, vector(7, 3, 5)))

    def test_more_rows_than_columns(self):
        rows = over(5, (0, 2), (3, 1), (1, 1))
        self.assertEqual(solve(FIVE, rows, 2, vector(5, 2, 2, 3)), vector(5, 2, 1))
        self.assertIsNone(solve(FIVE, rows, 2, vector(5, 2, 2, 4)))

    def test_over_the_field_of_four(self):
        self.assertEqual(solve(FOUR, ((T4, I4), (I4, T4)), 2, (I4, O4)), (I4, S4))


class TestCoordinates(unittest.TestCase):
    def test_no_rows(self):
        self.assertEqual(coordinates(FIVE, (), ()), ())
        self.assertEqual(coordinates(FIVE, (), vector(5, 0, 0)), ())
        self.assertIsNone(coordinates(FIVE, (), vector(5, 0, 1)))

    def test_inside_and_outside(self):
        rows = over(5, (1, 2, 3), (0, 1, 1))
        self.assertEqual(coordinates(FIVE, rows, vector(5, 2, 3, 0)), vector(5, 2, 4))
        self.assertEqual(coordinates(FIVE, rows, vector(5, 0, 0, 0)), vector(5, 0, 0))
        self.assertIsNone(coordinates(FIVE, rows, vector(5, 2, 3, 1)))
        self.assertIsNone(coordinates(FIVE, over(5, (0, 1, 0)), vector(5, 0, 1, 1)))

    def test_every_vector_of_the_space(self):
        bases = (
            (THREE, [(0,), (1,), (2,)], over(3, (0, 1, 2), (1, 1, 0))),
            (TWO, [(0,), (1,)], over(2, (1, 1, 0, 0), (0, 1, 1, 0), (1, 1, 1, 1))),
            (FOUR, square_members(2), ((T4, I4, O4), (I4, I4, S4))),
            (NINE, square_members(3), (((1, 1), (0, 1)),)),
            (FOUR, square_members(2), ((O4, T4), (T4, S4))),
        )
        for field, members, rows in bases:
            width = len(rows[0])
            sums = {plain_sum(field, rows, width, weights): weights for weights in vectors(members, len(rows))}
            self.assertEqual(len(sums), len(members) ** len(rows))
            for target in vectors(members, width):
                self.assertEqual(coordinates(field, rows, target), sums.get(target))


class TestDeterminant(unittest.TestCase):
    def test_no_rows(self):
        for field, _ in ALL_FIELDS:
            self.assertEqual(determinant(field, ()), field.one())

    def test_size_one(self):
        for field, members in ALL_FIELDS:
            for member in members:
                self.assertEqual(determinant(field, ((member,),)), member)

    def test_size_two(self):
        self.assertEqual(determinant(SEVEN, over(7, (1, 2), (3, 4))), (5,))
        self.assertEqual(determinant(FIVE, over(5, (2, 4), (1, 2))), (0,))

    def test_exchanged_rows(self):
        self.assertEqual(determinant(FIVE, over(5, (0, 1), (1, 0))), (4,))
        self.assertEqual(determinant(FIVE, over(5, (0, 2), (3, 1))), (4,))
        self.assertEqual(determinant(FIVE, over(5, (0, 1, 0), (0, 0, 1), (1, 0, 0))), (1,))
        self.assertEqual(determinant(FIVE, over(5, (0, 0, 1), (0, 1, 0), (1, 0, 0))), (4,))
        self.assertEqual(determinant(SEVEN, over(7, (1, 2, 0), (2, 4, 1), (0, 3, 5))), (4,))

    def test_each_permutation_of_four_rows(self):
        unit = over(5, (1, 0, 0, 0), (0, 1, 0, 0), (0, 0, 1, 0), (0, 0, 0, 1))
        for rows in permutations(unit):
            self.assertEqual(determinant(FIVE, rows), by_permutations(FIVE, rows))

    def test_singular(self):
        self.assertEqual(determinant(FIVE, over(5, (0,))), (0,))
        self.assertEqual(determinant(FIVE, over(5, (1, 2, 3), (2, 4, 1), (0, 1, 1))), (0,))
        self.assertEqual(determinant(FIVE, over(5, (1, 2, 3), (0, 0, 0), (0, 1, 1))), (0,))
        self.assertEqual(determinant(FOUR, ((T4, I4), (S4, T4))), O4)
        rows = over(7, (1, 2, 3, 4), (0, 1, 1, 1), (1, 3, 4, 5), (2, 0, 0, 1))
        self.assertEqual(determinant(SEVEN, rows), (0,))

    def test_every_matrix_of_some_sizes(self):
        sizes = ((TWO, [(0,), (1,)], 3), (THREE, [(0,), (1,), (2,)], 2), (FOUR, square_members(2), 2))
        for field, members, size in sizes:
            for rows in matrices(members, size, size):
                self.assertEqual(determinant(field, rows), by_permutations(field, rows))

    def test_size_three_and_four(self):
        for size in (3, 4):
            for start in range(120):
                numbers = [(start * k * k + 3 * k + start // 7) % 11 for k in range(size * size)]
                rows = over(7, *[numbers[at * size:(at + 1) * size] for at in range(size)])
                self.assertEqual(determinant(SEVEN, rows), by_permutations(SEVEN, rows))

    def test_over_the_field_of_nine(self):
        members = square_members(3)
        for start in range(150):
            rows = tuple(tuple(members[(start * k * k + 2 * k + start // 5) % 9] for k in range(at, at + 3))
                         for at in (0, 3, 6))
            self.assertEqual(determinant(NINE, rows), by_permutations(NINE, rows))


class TestHelpers(unittest.TestCase):
    """What other modules of the package use, beside the interface."""

    def test_unit_vector(self):
        self.assertEqual(unit_vector(FOUR, 3, 0), (I4, O4, O4))
        self.assertEqual(unit_vector(FOUR, 3, 2), (O4, O4, I4))
        self.assertEqual(unit_vector(FIVE, 1, 0), ((1,),))

    def test_inverse_matrix(self):
        sizes = ((TWO, [(0,), (1,)], 3), (THREE, [(0,), (1,), (2,)], 2), (FOUR, square_members(2), 2))
        for field, members, size in sizes:
            unit = tuple(unit_vector(field, size, at) for at in range(size))
            for rows in matrices(members, size, size):
                if by_permutations(field, rows) != field.zero():
                    inverse = inverse_matrix(field, rows)
                    self.assertEqual(tuple(plain_sum(field, rows, size, weights) for weights in inverse), unit)
        self.assertEqual(inverse_matrix(FOUR, ()), ())

    def test_windows(self):
        row = vector(5, 1, 2, 3, 4)
        self.assertEqual(windows(row, 2, 3), (row[0:2], row[1:3], row[2:4]))
        self.assertEqual(windows(row, 2, 1), (row[0:2],))
        self.assertEqual(windows(row, 4, 1), (row,))
        self.assertEqual(windows(row, 0, 4), ((), (), (), ()))
        self.assertEqual(windows(row, 4, 0), ())
        self.assertEqual(windows(row, 6, -2), ())


if __name__ == "__main__":
    unittest.main()

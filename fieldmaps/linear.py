"""Linear equations over a field.

A field is any object with the methods zero, one, add, negative, multiply and inverse, and no other
method of it is called here. A vector is a tuple of members, a matrix a tuple of vectors of one length.
"""


def dot(field, a, b):
    """The product of two vectors of one length."""
    total = field.zero()
    for x, y in zip(a, b):
        total = field.add(total, field.multiply(x, y))
    return total


def combine(field, rows, width, weights):
    """The sum of the rows multiplied by the weights."""
    total = (field.zero(),) * width
    for row, weight in zip(rows, weights):
        total = add_multiple(field, total, weight, row)
    return total


def add_multiple(field, row, weight, other):
    """The row plus the other row multiplied by the weight."""
    return tuple([field.add(x, field.multiply(weight, y)) for x, y in zip(row, other)])


def unit_vector(field, width, at):
    """The vector with one at the index and zeros elsewhere."""
    return tuple([field.one() if k == at else field.zero() for k in range(width)])


def windows(row, width, count):
    """The matrix of the first `count` runs of neighbours in a vector, each as long as the width."""
    return tuple([row[k:k + width] for k in range(count)])


def reduced(field, rows, width):
    """The pair (rows, pivots) of the reduced matrix with the same span."""
    done = []
    pivots = []
    rest = list(rows)
    for column in range(width):
        at = first_filled(field, rest, column)
        if at is not None:
            pivot_row = with_leading_one(field, rest[at], column)
            done = cleared(field, done, pivot_row, column) + [pivot_row]
            rest = cleared(field, rest[:at] + rest[at + 1:], pivot_row, column)
            pivots.append(column)
    return tuple(done), tuple(pivots)


def first_filled(field, rows, column):
    """The index of the first row whose item in the column is not zero, or None."""
    zero = field.zero()
    for at, row in enumerate(rows):
        if row[column] != zero:
            return at
    return None


def with_leading_one(field, row, column):
    """The row divided by its item in the column."""
    factor = field.inverse(row[column])
    return tuple([field.multiply(factor, x) for x in row])


def cleared(field, rows, pivot_row, column):
    """The list of the rows less the multiples of the pivot row that leave zeros in the column."""
    zero = field.zero()
    # Most rows of sparse matrices have a zero there already.
    return [
        row if row[column] == zero else add_multiple(field, row, field.negative(row[column]), pivot_row)
        for row in rows
    ]


def kernel(field, rows, width):
    """For each free column the vector with one there, zero in the other ones, and the product zero with each row."""
    done, pivots = reduced(field, rows, width)
    vectors = []
    for free in range(width):
        if free not in pivots:
            vector = [field.zero()] * width
            vector[free] = field.one()
            for row, pivot in zip(done, pivots):
                vector[pivot] = field.negative(row[free])
            vectors.append(tuple(vector))
    return tuple(vectors)


def solve(field, rows, width, right):
    """The vector with the products `right` with the rows and zeros in the free columns, or None."""
    wider = tuple([(*row, item) for row, item in zip(rows, right)])
    done, pivots = reduced(field, wider, width + 1)
    # A pivot in the last column is the equation 0 = 1.
    if width in pivots:
        return None
    vector = [field.zero()] * width
    for row, pivot in zip(done, pivots):
        vector[pivot] = row[width]
    return tuple(vector)


def coordinates(field, rows, vector):
    """The multiples of the independent rows whose sum is the vector, or None."""
    columns = tuple([tuple([row[at] for row in rows]) for at in range(len(vector))])
    return solve(field, columns, len(rows), vector)


def inverse_matrix(field, rows):
    """The square matrix whose product with the rows, which are independent, is the unit matrix."""
    width = len(rows)
    wider = tuple([row + unit_vector(field, width, at) for at, row in enumerate(rows)])
    # What makes the left half the unit matrix makes the inverse of what was the unit matrix.
    return tuple([row[width:] for row in reduced(field, wider, 2 * width)[0]])


def determinant(field, rows):
    """The determinant of a square matrix, one for the matrix without rows."""
    result = field.one()
    rest = list(rows)
    for column in range(len(rows)):
        at = first_filled(field, rest, column)
        if at is None:
            return field.zero()
        pivot = rest[at][column]
        # Moving the row to the top takes as many exchanges as rows stand above it.
        result = field.multiply(result, field.negative(pivot) if at % 2 == 1 else pivot)
        pivot_row = with_leading_one(field, rest[at], column)
        rest = cleared(field, rest[:at] + rest[at + 1:], pivot_row, column)
    return result

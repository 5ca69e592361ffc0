"""What the tests reckon themselves, by definitions, to compare it with what the program says."""

from itertools import product

from fieldmaps.field import Field
from fieldmaps.poly import Poly

# A value of each kind that "for every value" means, none of them a field, a member, a polynomial or a map.
ODD_VALUES = (
    None, True, False, 0, 1, 2, -1, 10**30, "", "0", "1", "t", "x", "(0, 1)",
    [], [0], [0, 1], [1, 0], [(0,)], (), ((),), ((0,),), ((0, 1),), (None,), ("0", "1"), (True, False), ([0], [1]),
    (0, 1, 0, 1, 0, 1, 0, 1, 0, 1), [[1], (2, [None])],
)

F2 = Field(2)
F3 = Field(3)
F4 = Field(2, (1, 1, 1))
F5 = Field(5)
F7 = Field(7, (4, 1))
F8 = Field(2, (1, 1, 0, 1))
F9 = Field(3, (1, 0, 1))
F16 = Field(2, (1, 1, 1, 1, 1))
F25 = Field(5, (2, 1, 1))
F27 = Field(3, (1, 2, 0, 1))
F49 = Field(7, (1, 0, 1))
F81 = Field(3, (2, 1, 0, 0, 1))
F256 = Field(2, (1, 1, 0, 1, 1, 0, 0, 0, 1))
F343 = Field(7, (2, 0, 0, 1))
F361 = Field(19, (1, 0, 1))
F397 = Field(397, (396, 1))

SMALL = (F2, F3, F4, F5, F7, F8, F9)
MIDDLE = (F16, F25, F27, F49)
LARGE = (F256, F343, F361, F397)


def cut(row, zero=0):
    """The row without zeros at the end."""
    row = list(row)
    while row and row[-1] == zero:
        row.pop()
    return tuple(row)


def rows_below(p, length):
    """All polynomials modulo p with at most so many coefficients."""
    return [cut(row) for row in product(range(p), repeat=length)]


def monic_rows(p, degree):
    """All monic polynomials modulo p of the degree."""
    return [(*row, 1) for row in product(range(p), repeat=degree)]


def sum_of_rows(a, b, p):
    length = max(len(a), len(b))
    return cut([((a[k] if k < len(a) else 0) + (b[k] if k < len(b) else 0)) % p for k in range(length)])


def product_of_rows(a, b, p):
    table = {}
    for i, x in enumerate(a):
        for j, y in enumerate(b):
            table[i + j] = table.get(i + j, 0) + x * y
    return cut([table[k] % p for k in range(len(table))])


def rest_by_monic(a, m, p):
    """The remainder by a monic m: multiples of it are taken away as long as there is a power to take away."""
    rest = list(a)
    while len(rest) >= len(m):
        top = rest[-1]
        start = len(rest) - len(m)
        for k, item in enumerate(m):
            rest[start + k] = (rest[start + k] - top * item) % p
        assert rest.pop() == 0
    return cut(rest)


def is_irreducible_by_trial(m, p):
    """Whether a monic m of positive degree has no monic divisor of degree 1 to half its degree."""
    half = (len(m) - 1) // 2
    return all(rest_by_monic(m, g, p) for degree in range(1, half + 1) for g in monic_rows(p, degree))


def member_sum(p, a, b):
    return tuple((x + y) % p for x, y in zip(a, b, strict=True))


def member_product(p, modulus, a, b):
    """The product of two members as polynomials in t, by their remainder."""
    rest = rest_by_monic(product_of_rows(cut(a), cut(b), p), modulus, p)
    return rest + (0,) * (len(modulus) - 1 - len(rest))


def all_members(p, n):
    """All tuples of n integers from 0 to p - 1, by the sums of the items times 1, p, p^2, .."""
    return [tuple(reversed(row)) for row in product(range(p), repeat=n)]


def poly(field, *numbers):
    """The polynomial with the members of these numbers as its coefficients, the constant first."""
    return Poly(field, [field.member(number) for number in numbers])


def numbers_of(f):
    return tuple(f.field.number(item) for item in f.row)


def polys_below(field, length):
    """All polynomials with at most so many coefficients."""
    return [poly(field, *numbers) for numbers in product(range(field.q), repeat=length)]


def monic_polys(field, degree):
    """All monic polynomials of the degree, in the order of their keys."""
    return [poly(field, *reversed(numbers), 1) for numbers in product(range(field.q), repeat=degree)]


def product_of_members(field, a, b):
    """The coefficients of the product of two polynomials, without an operator of the program."""
    sums = [field.zero()] * (len(a) + len(b))
    for i, x in enumerate(a):
        for j, y in enumerate(b):
            sums[i + j] = field.add(sums[i + j], field.multiply(x, y))
    return cut(sums, field.zero())


def multiplied(field, polys):
    """The product of polynomials, one after the other."""
    row = (field.one(),)
    for f in polys:
        row = product_of_members(field, row, f.row)
    return Poly(field, row)

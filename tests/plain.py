"""What the tests reckon themselves, by definitions, to compare it with what the program says."""

from itertools import product

from fieldmaps.field import Field
from fieldmaps.poly import Poly, variable

# A value of each kind that "for every value" means, none of them a field, a member, a polynomial or a map.
ODD_VALUES = (
    None, True, False, 0, 1, 2, -1, 10**30, "", "0", "1", "t", "x", "(0, 1)",
    [], [0], [0, 1], [1, 0], [(0,)], (), ((),), ((0,),), ((0, 1),), (None,), ("0", "1"), (True, False), ([0], [1]),
    (0, 1, 0, 1, 0, 1, 0, 1, 0, 1), [[1], (2, [None])],
)

F2 = Field(2)
F3 = Field(3)
F4 = Field(2, (1, 1, 1))
F5 = Field(5)
F7 = Field(7, (4, 1))
F8 = Field(2, (1, 1, 0, 1))
F9 = Field(3, (1, 0, 1))
F16 = Field(2, (1, 1, 1, 1, 1))
F25 = Field(5, (2, 1, 1))
F27 = Field(3, (1, 2, 0, 1))
F49 = Field(7, (1, 0, 1))
F64 = Field(2, (1, 1, 0, 0, 0, 0, 1))
F81 = Field(3, (2, 1, 0, 0, 1))
F256 = Field(2, (1, 1, 0, 1, 1, 0, 0, 0, 1))
F343 = Field(7, (2, 0, 0, 1))
F361 = Field(19, (1, 0, 1))
F397 = Field(397, (396, 1))

SMALL = (F2, F3, F4, F5, F7, F8, F9)
MIDDLE = (F16, F25, F27, F49)
LARGE = (F256, F343, F361, F397)


def divisors_of(n):
    return [d for d in range(1, n + 1) if n % d == 0]


def primes_of(n):
    """The prime divisors of n, ascending."""
    return [d for d in divisors_of(n) if len(divisors_of(d)) == 2]


def no_degrees(n):
    """Values that are no positive divisor of n."""
    values = [value for value in ODD_VALUES if isinstance(value, bool) or not isinstance(value, int)]
    values.extend([d for d in range(-3, 2 * n + 2) if d <= 0 or n % d != 0])
    values.extend([-n, 10**30, -1, F4, Poly(F4, ((0, 0), (1, 0)))])
    return values


def cut(row, zero=0):
    """The row without zeros at the end."""
    row = list(row)
    while row and row[-1] == zero:
        row.pop()
    return tuple(row)


def rows_below(p, length):
    """All polynomials modulo p with at most so many coefficients."""
    return [cut(row) for row in product(range(p), repeat=length)]


def monic_rows(p, degree):
    """All monic polynomials modulo p of the degree."""
    return [(*row, 1) for row in product(range(p), repeat=degree)]


def sum_of_rows(a, b, p):
    length = max(len(a), len(b))
    return cut([((a[k] if k < len(a) else 0) + (b[k] if k < len(b) else 0)) % p for k in range(length)])


def product_of_rows(a, b, p):
    table = {}
    for i, x in enumerate(a):
        for j, y in enumerate(b):
            table[i + j] = table.get(i + j, 0) + x * y
    return cut([table[k] % p for k in range(len(table))])


def rest_by_monic(a, m, p):
    """The remainder by a monic m: multiples of it are taken away as long as there is a power to take away."""
    rest = list(a)
    while len(rest) >= len(m):
        top = rest[-1]
        start = len(rest) - len(m)
        for k, item in enumerate(m):
            rest[start + k] = (rest[start + k] - top * item) % p
        assert rest.pop() == 0
    return cut(rest)


def is_irreducible_by_trial(m, p):
    """Whether a monic m of positive degree has no monic divisor of degree 1 to half its degree."""
    half = (len(m) - 1) // 2
    return all(rest_by_monic(m, g, p) for degree in range(1, half + 1) for g in monic_rows(p, degree))


def member_sum(p, a, b):
    return tuple((x + y) % p for x, y in zip(a, b, strict=True))


def member_product(p, modulus, a, b):
    """The product of two members as polynomials in t, by their remainder."""
    rest = rest_by_monic(product_of_rows(cut(a), cut(b), p), modulus, p)
    return rest + (0,) * (len(modulus) - 1 - len(rest))


def all_members(p, n):
    """All tuples of n integers from 0 to p - 1, by the sums of the items times 1, p, p^2, .."""
    return [tuple(reversed(row)) for row in product(range(p), repeat=n)]


def members(field, *numbers):
    """The tuple of the members with these numbers."""
    return tuple(field.member(number) for number in numbers)


def poly(field, *numbers):
    """The polynomial with the members of these numbers as its coefficients, the constant first."""
    return Poly(field, [field.member(number) for number in numbers])


def numbers_of(f):
    return tuple(f.field.number(item) for item in f.row)


def polys_below(field, length):
    """All polynomials with at most so many coefficients."""
    return [poly(field, *numbers) for numbers in product(range(field.q), repeat=length)]


def monic_polys(field, degree):
    """All monic polynomials of the degree, in the order of their keys."""
    return [poly(field, *reversed(numbers), 1) for numbers in product(range(field.q), repeat=degree)]


def product_of_members(field, a, b):
    """The coefficients of the product of two polynomials, without an operator of the program."""
    sums = [field.zero()] * (len(a) + len(b))
    for i, x in enumerate(a):
        for j, y in enumerate(b):
            sums[i + j] = field.add(sums[i + j], field.multiply(x, y))
    return cut(sums, field.zero())


def multiplied(field, polys):
    """The product of polynomials, one after the other."""
    row = (field.one(),)
    for f in polys:
        row = product_of_members(field, row, f.row)
    return Poly(field, row)


def walked_powers(field, a):
    """The powers of a member from the power 0 on, by products one after the other, until one comes again."""
    powers = [field.one()]
    power = field.multiply(powers[-1], a)
    while power not in powers:
        powers.append(power)
        power = field.multiply(power, a)
    return powers


def walked_power(field, a, k):
    """The power k of a member, by products one after the other."""
    power = field.one()
    for _ in range(k):
        power = field.multiply(power, a)
    return power


def vectors(field, length):
    """All tuples of so many members."""
    return list(product(list(field.members()), repeat=length))


def changes(value):
    """Values that are unlike a nested tuple of words and integers at one place, for every place at every depth."""
    yield from (None, True, False, 0, 1, -1, 10**30, (), [], "", "0", ((),), (None,), (0,), F4, variable(F4))
    if isinstance(value, tuple):
        yield list(value)
        yield (value,)
        yield value[::-1]
        yield (*value, ())
        yield (*value, 0)
        for at, item in enumerate(value):
            yield value[:at] + value[at + 1:]
            yield value[:at] + (item, item) + value[at + 1:]
            yield value[:at] + tuple(reversed(value[at:at + 2])) + value[at + 2:]
            for other in changes(item):
                yield value[:at] + (other,) + value[at + 1:]
    elif isinstance(value, int):
        yield from (value + 1, value - 1, 2 * value, -value, bool(value), str(value), (value,), [value])
    elif isinstance(value, str):
        yield from (value + " ", value[1:], value.upper(), (value,), [value], value + value)


def irreducible_by_trial(field, degree):
    """All monic polynomials of the degree that no monic one of degree 1 to half of it divides."""
    return [f for f in monic_polys(field, degree)
            if all((f % g).row for low in range(1, degree // 2 + 1) for g in monic_polys(field, low))]

"""Polynomials in x over a finite field."""

from fieldmaps.errors import Malformed, ZeroDivisor
from fieldmaps.field import reciprocal, written_power
from fieldmaps.rows import filled_up, without_end
from fieldmaps.whole import by_squaring


class Poly:
    """A polynomial: the tuple of its coefficients, members of the field, the constant first, the last one not zero."""

    def __init__(self, field, row):
        if not all([field.is_member(item) for item in row]):
            raise Malformed("a coefficient is no member of the field")
        self.field = field
        self.row = without_end(row, field.zero())

    def __eq__(self, other):
        return isinstance(other, Poly) and self.field == other.field and self.row == other.row

    def __add__(self, other):
        # No operator calls the method add, because a call of that name reads as one that changes a set.
        return self - -other

    def __sub__(self, other):
        check_same_field(self, other)
        field = self.field
        length = max(len(self.row), len(other.row))
        a = filled_up(self.row, length, field.zero())
        b = filled_up(other.row, length, field.zero())
        return Poly(field, [field.subtract(x, y) for x, y in zip(a, b)])

    def __neg__(self):
        return Poly(self.field, [self.field.negative(item) for item in self.row])

    def __mul__(self, other):
        check_same_field(self, other)
        field = self.field
        products = [field.zero() for _ in range(len(self.row) + len(other.row))]
        for i, x in enumerate(self.row):
            # As in __add__: what is added is taken away with the other sign.
            factor = field.negative(x)
            for j, y in enumerate(other.row):
                products[i + j] = field.subtract(products[i + j], field.multiply(factor, y))
        return Poly(field, products)

    def __floordiv__(self, other):
        return divided_with_rest(self, other)[0]

    def __mod__(self, other):
        return divided_with_rest(self, other)[1]

    def __call__(self, a):
        value = self.field.zero()
        for item in reversed(self.row):
            value = self.field.add(self.field.multiply(value, a), item)
        return value

    def __str__(self):
        if not self.row:
            return "0"
        return " + ".join(written_items(self))

    def degree(self):
        """The degree, -1 for zero."""
        return len(self.row) - 1

    def is_zero(self):
        """True if it is the polynomial zero."""
        return len(self.row) == 0

    def leading(self):
        """The last coefficient; raises ZeroDivisor for zero."""
        if self.is_zero():
            raise ZeroDivisor("the polynomial zero has no leading coefficient")
        return self.row[-1]

    def coefficient(self, k):
        """The coefficient of x^k, zero of the field for every k that is none of the row."""
        if 0 <= k < len(self.row):
            return self.row[k]
        return self.field.zero()

    def scaled(self, a):
        """The product with a member."""
        return Poly(self.field, [self.field.multiply(a, item) for item in self.row])

    def monic(self):
        """The polynomial divided by its last coefficient; zero for zero."""
        if self.is_zero():
            return self
        return self.scaled(self.field.inverse(self.leading()))

    def derivative(self):
        """The derivative by x."""
        field = self.field
        return Poly(field, [field.multiply(field.integer(k), self.row[k]) for k in range(1, len(self.row))])

    def power(self, k):
        """The power k, from 0 on."""
        return by_squaring(unit(self.field), self, k, lambda f, g: f * g)

    def power_modulo(self, k, m):
        """The remainder of the power k, from 0 on, by m; raises ZeroDivisor if m is zero."""
        return by_squaring(unit(self.field) % m, self % m, k, lambda f, g: f * g % m)

    def put(self, g):
        """The polynomial with g in the place of x."""
        check_same_field(self, g)
        result = Poly(self.field, ())
        for item in reversed(self.row):
            result = result * g + constant(self.field, item)
        return result

    def key(self):
        """The degree and the numbers of the coefficients, from the highest power down; polynomials are sorted by it."""
        return (self.degree(), *[self.field.number(item) for item in self.row[::-1]])


def constant(field, a):
    """The polynomial a."""
    return Poly(field, (a,))


def monomial(field, a, k):
    """The polynomial a x^k."""
    return Poly(field, filled_up((), k, field.zero()) + (a,))


def variable(field):
    """The polynomial x."""
    return monomial(field, field.one(), 1)


def unit(field):
    """The polynomial 1."""
    return constant(field, field.one())


def power_of_x(f, k):
    """The remainder of x^(q^k), k from 0 on, by f; raises ZeroDivisor if f is zero."""
    power = variable(f.field) % f
    for _ in range(k):
        power = power.power_modulo(f.field.q, f)
    return power


def common_divisor(f, g):
    """The monic greatest common divisor, zero if both are zero."""
    check_same_field(f, g)
    divisor, rest = f, g
    while not rest.is_zero():
        divisor, rest = rest, divisor % rest
    return divisor.monic()


def cofactors(f, g):
    """(d, u, v) with the greatest common divisor d = u f + v g, and u of a lower degree than g / d if g is not zero."""
    check_same_field(f, g)
    nothing = Poly(f.field, ())
    divisor, u = f, unit(f.field)
    rest, rest_u = g, nothing
    # Each round keeps u f - divisor and rest_u f - rest multiples of g.
    while not rest.is_zero():
        quotient = divisor // rest
        divisor, rest = rest, divisor - quotient * rest
        u, rest_u = rest_u, u - quotient * rest_u
    if divisor.is_zero():
        return nothing, nothing, nothing
    factor = f.field.inverse(divisor.leading())
    divisor = divisor.scaled(factor)
    u = u.scaled(factor)
    if g.is_zero():
        return divisor, u, nothing
    # The rounds have left u zero or of a lower degree than g / d, so only v is missing.
    return divisor, u, (divisor - u * f) // g


def check_same_field(f, g):
    """Raises Malformed if the polynomials are over unequal fields."""
    if f.field != g.field:
        raise Malformed("the polynomials are over unequal fields")


def divided_with_rest(f, g):
    """The pair of quotient and remainder; raises ZeroDivisor if g is zero."""
    check_same_field(f, g)
    field = f.field
    factor = reciprocal(field, g.leading())
    rest = list(f.row)
    places = len(f.row) - len(g.row) + 1
    quotient = [field.zero() for _ in range(places)]
    for at in reversed(range(places)):
        quotient[at] = field.multiply(rest[at + g.degree()], factor)
        for k, item in enumerate(g.row):
            rest[at + k] = field.subtract(rest[at + k], field.multiply(quotient[at], item))
    return Poly(field, quotient), Poly(field, rest)


def written_items(f):
    """The texts of the terms with coefficients other than zero, from the highest power down."""
    zero = f.field.zero()
    return [written_item(f, k) for k in reversed(range(len(f.row))) if f.row[k] != zero]


def written_item(f, k):
    """The text of the term with x^k."""
    text = f.field.written(f.row[k])
    if k == 0:
        return f"({text})"
    power = written_power("x", k)
    return f"({text})*{power}"

"""Polynomials modulo a prime p: tuples of integers from 0 to p - 1, the constant first, the last one not 0."""

from fieldmaps.errors import ZeroDivisor
from fieldmaps.whole import by_squaring, inverse_modulo


def without_end(items, zero):
    """The tuple of the items without those at the end that are zero."""
    length = len(items)
    while length > 0 and items[length - 1] == zero:
        length = length - 1
    return tuple(items[:length])


def filled_up(items, length, zero):
    """The tuple of the items with zeros behind them, up to the length."""
    return tuple(items) + (zero,) * (length - len(items))


def trimmed(row, p):
    """The tuple of the integers modulo p without zeros at the end."""
    return without_end([item % p for item in row], 0)


def add_rows(a, b, p):
    """The sum of two polynomials."""
    length = max(len(a), len(b))
    return trimmed([x + y for x, y in zip(filled_up(a, length, 0), filled_up(b, length, 0))], p)


def subtract_rows(a, b, p):
    """The difference of two polynomials."""
    return add_rows(a, [-item for item in b], p)


def multiply_rows(a, b, p):
    """The product of two polynomials."""
    products = [0] * (len(a) + len(b))
    for i, x in enumerate(a):
        for j, y in enumerate(b):
            products[i + j] = products[i + j] + x * y
    return trimmed(products, p)


def divide_rows(a, b, p):
    """The pair of quotient and remainder; raises ZeroDivisor if b is zero."""
    if not b:
        raise ZeroDivisor("a division by the polynomial zero")
    factor = inverse_modulo(b[-1], p)
    rest = list(a)
    places = len(a) - len(b) + 1
    quotient = [0] * places
    for at in reversed(range(places)):
        quotient[at] = rest[at + len(b) - 1] * factor % p
        for k, item in enumerate(b):
            rest[at + k] = (rest[at + k] - quotient[at] * item) % p
    return trimmed(quotient, p), trimmed(rest, p)


def common_row(a, b, p):
    """The monic greatest common divisor, zero if both are zero."""
    divisor, rest = a, b
    while rest:
        divisor, rest = rest, divide_rows(divisor, rest, p)[1]
    if not divisor:
        return ()
    return multiply_rows(divisor, (inverse_modulo(divisor[-1], p),), p)


def power_row(a, k, m, p):
    """The remainder of a^k by m, for k from 0 on and m of positive degree."""
    start = divide_rows(a, m, p)[1]
    return by_squaring((1,), start, k, lambda x, y: divide_rows(multiply_rows(x, y, p), m, p)[1])


def is_irreducible_row(m, p):
    """True if m has positive degree and is no product of two polynomials of lower degrees, modulo the prime p."""
    degree = len(m) - 1
    if degree < 1:
        return False
    x = (0, 1)
    power = x
    # A product has an irreducible divisor of at most half its degree; those whose degrees divide k are
    # the ones of x^(p^k) - x.
    for _ in range(degree // 2):
        power = power_row(power, p, m, p)
        if len(common_row(m, subtract_rows(power, x, p), p)) > 1:
            return False
    return True

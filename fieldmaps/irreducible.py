"""Irreducible polynomials over a finite field."""

from fieldmaps.errors import Refused
from fieldmaps.poly import Poly, common_divisor, variable
from fieldmaps.whole import by_squaring, digits, divisors, moebius, power_within

# The greatest number of polynomials among which all irreducible ones are looked for.
MOST_TRIED = 2000


def is_irreducible(f):
    """True if f has positive degree and is no product of two polynomials of lower degrees."""
    if f.degree() < 1:
        return False
    x = variable(f.field)
    power = x
    # A product has an irreducible divisor of at most half its degree; those whose degrees divide k are
    # the ones of x^(q^k) - x.
    for _ in range(f.degree() // 2):
        power = power.power_modulo(f.field.q, f)
        if common_divisor(f, power - x).degree() > 0:
            return False
    return True


def count_irreducible(q, n):
    """The number of monic irreducible polynomials of the degree n over a field of q members."""
    total = 0
    for d in divisors(n):
        total = total + moebius(d) * by_squaring(1, q, n // d, lambda a, b: a * b)
    return total // n


def least_irreducible(field, n):
    """The first monic irreducible polynomial of the degree n, from 1 on, in the order of the keys."""
    place = 0
    f = monic_at(field, n, place)
    while not is_irreducible(f):
        place = place + 1
        f = monic_at(field, n, place)
    return f


def all_irreducible(field, n):
    """All monic irreducible polynomials of the degree n, in order; raises Refused("large") if q^n is above 2000."""
    many = power_within(field.q, n, MOST_TRIED)
    if many is None:
        raise Refused("large")
    candidates = [monic_at(field, n, place) for place in range(many)]
    return tuple([f for f in candidates if is_irreducible(f)])


def monic_at(field, n, place):
    """The monic polynomial of the degree n at the place, from 0 on, in the order of the keys."""
    items = [field.member(number) for number in digits(place, field.q, n)]
    return Poly(field, (*items, field.one()))

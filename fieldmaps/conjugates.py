"""Conjugates, least polynomials, traces and norms over the subfields of a finite field, and its normal members."""

from fieldmaps.field import Field
from fieldmaps.linear import reduced
from fieldmaps.poly import Poly, unit
from fieldmaps.subfields import check_degree


def conjugates(field, a, d=1):
    """a and its powers p^d, p^(2 d), .., each once; raises Refused("degree") if d is no positive divisor of n."""
    check_degree(field, d)
    found = [a]
    power = field.frobenius(a, d)
    while power != a:
        found.append(power)
        power = field.frobenius(power, d)
    return tuple(found)


def least_polynomial(field, a, d=1):
    """The monic polynomial of the least degree over the subfield with the root a; raises Refused("degree")."""
    found = unit(field)
    for c in conjugates(field, a, d):
        found = found * Poly(field, (field.negative(c), field.one()))
    return found


def least_row(field, a):
    """The coefficients of the least polynomial over the integers modulo p, as integers, the constant first."""
    # The members of the subfield of the degree 1 have zeros behind the first item.
    return tuple([item[0] for item in least_polynomial(field, a).row])


def powers_over(field, a, d):
    """The n / d powers p^(d k) of a, k from 0 on, whether or not they repeat; raises Refused("degree")."""
    check_degree(field, d)
    return tuple([field.frobenius(a, d * k) for k in range(field.n // d)])


def trace(field, a, d=1):
    """The sum of the powers p^(d k) of a over the subfield of the degree d; raises Refused("degree")."""
    total = field.zero()
    for power in powers_over(field, a, d):
        total = field.add(total, power)
    return total


def norm(field, a, d=1):
    """The product of the powers p^(d k) of a over the subfield of the degree d; raises Refused("degree")."""
    total = field.one()
    for power in powers_over(field, a, d):
        total = field.multiply(total, power)
    return total


def is_normal(field, a):
    """True if the n powers p^k of a, k from 0 to n - 1, are independent over the integers modulo p."""
    return has_independent_powers(field, Field(field.p), a)


def has_independent_powers(field, prime_field, a):
    """True if a is normal, where the field of the integers modulo p is at hand."""
    rows = tuple([tuple([(item,) for item in power]) for power in powers_over(field, a, 1)])
    return len(reduced(prime_field, rows, field.n)[0]) == field.n


def least_normal(field):
    """The normal member with the least number; there always is one."""
    return normal_members(field)[0]


def normal_members(field):
    """All normal members, ascending by their numbers."""
    prime_field = Field(field.p)
    return tuple([a for a in field.members() if has_independent_powers(field, prime_field, a)])

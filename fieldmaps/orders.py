"""Orders, primitive members, logarithms and roots in a finite field."""

from math import isqrt

from fieldmaps.errors import Refused
from fieldmaps.whole import common, least_exponent


def check_not_zero(field, a):
    """Raises Refused("zero") if the member is zero."""
    if a == field.zero():
        raise Refused("zero")


def order_of(field, a):
    """The least exponent from 1 on with the power one; raises Refused("zero") for zero."""
    check_not_zero(field, a)
    return least_exponent(field.q - 1, lambda k: field.power(a, k) == field.one())


def is_primitive(field, a):
    """True if all members but zero are powers of a; raises Refused("zero") for zero."""
    return order_of(field, a) == field.q - 1


def least_primitive(field):
    """The primitive member with the least number."""
    return all_primitive(field)[0]


def all_primitive(field):
    """All primitive members, ascending by their numbers."""
    return members_of_order(field, field.q - 1)


def members_of_order(field, k):
    """All members of the order k, from 1 on, ascending by their numbers; none if k does not divide q - 1."""
    zero = field.zero()
    return tuple([a for a in field.members() if a != zero and order_of(field, a) == k])


def logarithm(field, b, a):
    """The least exponent from 0 on with the power a of b, or None; raises Refused("zero") if one of them is zero."""
    check_not_zero(field, b)
    check_not_zero(field, a)
    # The square of s is at least the order, so each exponent below the order is s i + j with i and j below s.
    s = isqrt(order_of(field, b) - 1) + 1
    exponents = {field.multiply(a, field.power(b, -j)): j for j in range(s)}
    for i in range(s):
        power = field.power(b, s * i)
        if power in exponents:
            return s * i + exponents[power]
    return None


def is_power(field, a, k):
    """True if a has a k-th root, k from 1 on."""
    if a == field.zero():
        return True
    g = common((k, field.q - 1))
    return field.power(a, (field.q - 1) // g) == field.one()


def roots_of(field, a, k):
    """The members with the k-th power a, k from 1 on, ascending by their numbers."""
    return tuple([b for b in field.members() if field.power(b, k) == a])


def roots_of_unity(field, k):
    """The members with the k-th power one, k from 1 on, ascending by their numbers."""
    return roots_of(field, field.one(), k)


def square_root(field, a):
    """The member with the square a that has the least number, or None."""
    found = roots_of(field, a, 2)
    return found[0] if found else None

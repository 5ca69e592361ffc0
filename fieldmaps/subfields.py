"""The subfields of a finite field."""

from math import lcm

from fieldmaps.errors import Refused
from fieldmaps.whole import divisors, is_integer


def subfield(field, d):
    """The members of the subfield of the degree d, ascending; raises Refused("degree") if there is none."""
    return tuple([a for a in field.members() if is_in_subfield(field, a, d)])


def is_in_subfield(field, a, d):
    """True if a is in the subfield of the degree d; raises Refused("degree") if there is none."""
    check_degree(field, d)
    return field.frobenius(a, d) == a


def check_degree(field, d):
    """Raises Refused("degree") if the field has no subfield of the degree d, for every value of d."""
    if not is_integer(d) or d < 1 or field.n % d != 0:
        raise Refused("degree")


def degree_of(field, a):
    """The degree of the least subfield that holds a, which is that of its least polynomial modulo p."""
    degrees = [d for d in divisors(field.n) if field.frobenius(a, d) == a]
    return degrees[0]


def common_degree(field, members):
    """The degree of the least subfield that holds the members, 1 if there are none."""
    degree = 1
    for a in members:
        degree = lcm(degree, degree_of(field, a))
    return degree


def least_of_degree(field, d):
    """The first member of the degree d; raises Refused("degree") if there is no subfield of this degree."""
    check_degree(field, d)
    found = [a for a in field.members() if degree_of(field, a) == d]
    return found[0]

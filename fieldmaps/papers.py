"""Papers: what shows the checker that a result of the chapters before is right."""

from fieldmaps.errors import Refused, ZeroDivisor
from fieldmaps.factoring import factors
from fieldmaps.irreducible import is_irreducible
from fieldmaps.linear import inverse_matrix, windows
from fieldmaps.maps import isomorphisms
from fieldmaps.orders import order_of
from fieldmaps.poly import cofactors, power_of_x, variable
from fieldmaps.recurrences import least_recurrence
from fieldmaps.whole import prime_divisors


def irreducible_paper(f):
    """The paper of a monic irreducible polynomial; raises Refused("reducible") for every other one."""
    if not is_irreducible(f) or f.leading() != f.field.one():
        raise Refused("reducible")
    degrees = [f.degree() // divisor for divisor in prime_divisors(f.degree())]
    return ("irreducible", tuple([coprime_rows(f, k) for k in degrees]))


def coprime_rows(f, k):
    """The rows of u and v with u f + v r one, r the remainder of x^(q^k) - x by an f of a degree from 2 on."""
    _, u, v = cofactors(f, power_of_x(f, k) - variable(f.field))
    return (u.row, v.row)


def factors_paper(f):
    """The paper of the factors of a polynomial; raises ZeroDivisor for zero."""
    leading = f.leading()
    return ("factors", leading, tuple([(g.row, k, irreducible_paper(g)) for g, k in factors(f)]))


def maps_paper(a, b):
    """The paper of the isomorphisms from a to b, without images if there are none."""
    return ("maps", isomorphisms(a, b))


def order_paper(field, a):
    """The paper of the order of a member; raises ZeroDivisor for zero."""
    if a == field.zero():
        raise ZeroDivisor("no power of zero is one")
    order = order_of(field, a)
    return ("order", order, prime_divisors(order))


def recurrence_paper(field, terms):
    """The paper of the least recurrence of a row; raises Refused("short") if the row has not two terms a multiple."""
    multiples = least_recurrence(field, terms)
    length = len(multiples)
    if 2 * length > len(terms):
        raise Refused("short")
    # The rows of the table are independent, because no recurrence of a lower length holds.
    table = windows(terms, length, length)
    return ("recurrence", multiples, inverse_matrix(field, table))

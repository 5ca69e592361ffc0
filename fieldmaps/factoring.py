"""The squarefree parts, the irreducible factors and the roots of polynomials over a finite field."""

from fieldmaps.errors import Malformed, ZeroDivisor
from fieldmaps.linear import kernel, reduced
from fieldmaps.poly import Poly, common_divisor, constant, unit, variable


def is_squarefree(f):
    """True if f is not zero and no square of a polynomial of positive degree divides it."""
    return not f.is_zero() and common_divisor(f, f.derivative()).degree() == 0


def squarefree_parts(f):
    """The pairs (g, k), ascending by k, of coprime monic squarefree g whose powers g^k have the product f.monic()."""
    if f.is_zero():
        raise ZeroDivisor("the polynomial zero has no squarefree parts")
    p = f.field.p
    parts = []
    rest = f.monic()
    times = 1
    while rest.degree() > 0:
        found, rest = separable_parts(rest)
        # No k here is a multiple of p, so with its own power of p each round has its own exponents.
        parts.extend([(g, k * times) for g, k in found])
        rest = root_of_power(rest)
        times = times * p
    return tuple(sorted(parts, key=lambda part: part[1]))


def separable_parts(f):
    """The pair of the squarefree parts (g, k) of a monic f whose k is no multiple of p, and of what is left of f."""
    left = common_divisor(f, f.derivative())
    # In the round k this is the product of the parts from k on. It begins as 1 if the derivative is zero.
    simple = f // left
    parts = []
    k = 1
    while simple.degree() > 0:
        repeated = common_divisor(simple, left)
        part = simple // repeated
        if part.degree() > 0:
            parts.append((part, k))
        simple = repeated
        left = left // repeated
        k = k + 1
    return parts, left


def root_of_power(f):
    """The polynomial with the p-th power f, for a polynomial f in x^p."""
    field = f.field
    # The power p^(n-1) of a member has the member as its p-th power.
    return Poly(field, [field.frobenius(item, field.n - 1) for item in f.row[::field.p]])


def fixed_space(f):
    """The reduced basis of the polynomials b of lower degree than f for which f divides b^q - b."""
    if f.degree() < 1 or f.leading() != f.field.one() or not is_squarefree(f):
        raise Malformed("the polynomial is not monic, squarefree and of positive degree")
    field = f.field
    n = f.degree()
    # The q-th power of a sum of terms a x^k is the sum of the a x^(q k), so it is linear in the coefficients.
    differences = powers_less_terms(f)
    equations = tuple([tuple([difference.coefficient(k) for difference in differences]) for k in range(n)])
    basis = reduced(field, kernel(field, equations, n), n)[0]
    return tuple([Poly(field, row) for row in basis])


def powers_less_terms(f):
    """The remainders of x^(q k) - x^k by f, for k from 0 to its degree less 1."""
    x = variable(f.field)
    step = x.power_modulo(f.field.q, f)
    power = term = unit(f.field)
    differences = []
    for _ in range(f.degree()):
        differences.append(power - term)
        power = power * step % f
        term = term * x
    return differences


def divided(f):
    """The monic irreducible divisors of a monic squarefree f of positive degree, in order."""
    basis = fixed_space(f)
    parts = [f]
    for b in basis:
        if len(parts) < len(basis):
            parts = [piece for part in parts for piece in pieces(part, b)]
    return tuple(sorted(parts, key=lambda g: g.key()))


def pieces(f, b):
    """The common divisors of positive degree of f and of b - c, for all members c; f is their product."""
    rest = f
    found = []
    for c in f.field.members():
        # Once all of them are found, only a constant is left.
        if rest.degree() > 0:
            piece = common_divisor(rest, b - constant(f.field, c))
            if piece.degree() > 0:
                found.append(piece)
                rest = rest // piece
    return found


def factors(f):
    """The pairs (g, k) of the monic irreducible divisors of f, in order, and their exponents; raises ZeroDivisor."""
    pairs = [(g, k) for part, k in squarefree_parts(f) for g in divided(part)]
    return tuple(sorted(pairs, key=lambda pair: pair[0].key()))


def roots(f):
    """The members at which f has the value zero, ascending; raises ZeroDivisor for the polynomial zero."""
    if f.is_zero():
        raise ZeroDivisor("every member is a root of the polynomial zero")
    return tuple([a for a in f.field.members() if f(a) == f.field.zero()])

"""Linear recurrences over a finite field, and the order of x modulo a polynomial."""

from math import lcm

from fieldmaps.errors import Malformed, Refused
from fieldmaps.factoring import factors
from fieldmaps.linear import dot, solve, windows
from fieldmaps.poly import Poly, unit, variable
from fieldmaps.whole import least_exponent, power_within

# The greatest number of remainders by an irreducible polynomial for which the order of x is looked for.
MOST_REMAINDERS = 1000000


class Recurrence:
    """A recurrence of the length L: each term is the product of the multiples and the L terms before it."""

    def __init__(self, field, multiples):
        if not all([field.is_member(item) for item in multiples]):
            raise Malformed("a multiple is no member of the field")
        self.field = field
        self.multiples = tuple(multiples)

    def __eq__(self, other):
        return isinstance(other, Recurrence) and self.field == other.field and self.multiples == other.multiples

    def __len__(self):
        return len(self.multiples)

    def polynomial(self):
        """The polynomial x^L less the sum of the multiples times the powers of x below."""
        field = self.field
        return Poly(field, (*[field.negative(item) for item in self.multiples], field.one()))

    def terms(self, first, count):
        """The first `count` terms, from 0 on, of the row with these first L terms; raises Malformed."""
        check_first(self, first)
        coming = tuple(first)
        for _ in range(count):
            # The new term is needed ahead of the yield only for the length 0, where no other one is there.
            coming = (*coming, dot(self.field, self.multiples, coming))
            yield coming[0]
            coming = coming[1:]

    def term(self, first, k):
        """The term s_k, k from 0 on, of the row with these first L terms; raises Malformed."""
        check_first(self, first)
        rest = variable(self.field).power_modulo(k, self.polynomial())
        return dot(self.field, rest.row, first)

    def is_satisfied(self, row):
        """True if the finite row, a tuple of members, satisfies the recurrence."""
        length = len(self.multiples)
        followed = windows(row, length, len(row) - length)
        return row[length:] == tuple([dot(self.field, self.multiples, window) for window in followed])

    def least(self, first):
        """The least recurrence of the endless row with these first L terms; raises Malformed."""
        many = 2 * len(self.multiples)
        # So many terms have the least recurrence of the whole row as theirs.
        known = tuple(self.terms(first, many))
        return Recurrence(self.field, least_recurrence(self.field, known))

    def period(self, first):
        """The beginning and the period of the endless row with these first L terms; raises Malformed, Refused."""
        row = self.least(first).polynomial().row
        zero = self.field.zero()
        beginning = 0
        # The last coefficient is one, so this ends within the row.
        while row[beginning] == zero:
            beginning = beginning + 1
        return beginning, order_of_x(Poly(self.field, row[beginning:]))


def check_first(recurrence, first):
    """Raises Malformed if the value is no tuple or list of as many members as the recurrence has multiples."""
    if not isinstance(first, (tuple, list)) or len(first) != len(recurrence.multiples):
        raise Malformed("the first terms are no tuple or list as long as the recurrence")
    if not all([recurrence.field.is_member(item) for item in first]):
        raise Malformed("a first term is no member of the field")


def least_recurrence(field, terms):
    """The multiples of the least recurrence of a finite row, a tuple of members."""
    low, high = 0, len(terms)
    # A row that satisfies a recurrence satisfies one of each greater length, so the least length is found by halves.
    while low < high:
        middle = (low + high) // 2
        if multiples_of_length(field, terms, middle) is None:
            low = middle + 1
        else:
            high = middle
    return multiples_of_length(field, terms, low)


def multiples_of_length(field, terms, length):
    """The multiples of a recurrence of this length for a finite row, with zeros in the free columns, or None."""
    return solve(field, windows(terms, length, len(terms) - length), length, terms[length:])


def order_of_x(f):
    """The least exponent e from 1 on for which f divides x^e - 1; raises Refused("constant") or Refused("large")."""
    if f.coefficient(0) == f.field.zero():
        raise Refused("constant")
    order = 1
    for g, k in factors(f):
        order = lcm(order, order_modulo(g) * least_power(f.field.p, k))
    return order


def order_modulo(g):
    """The order of x modulo an irreducible polynomial other than a multiple of x; raises Refused("large")."""
    many = power_within(g.field.q, g.degree(), MOST_REMAINDERS)
    if many is None:
        raise Refused("large")
    x = variable(g.field)
    one = unit(g.field)
    return least_exponent(many - 1, lambda k: x.power_modulo(k, g) == one)


def least_power(p, k):
    """The least power of p, from the power 0 on, that is at least k."""
    power = 1
    while power < k:
        power = power * p
    return power

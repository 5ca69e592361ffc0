"""Finite fields: the polynomials in t modulo a prime p and modulo an irreducible polynomial."""

from fieldmaps.errors import Malformed, NoText, Refused, ZeroDivisor
from fieldmaps.rows import divide_rows, filled_up, is_irreducible_row, trimmed
from fieldmaps.whole import digits, is_integer, is_prime, power_within

# The greatest number of members that a field may have.
MOST_MEMBERS = 400


class Field:
    """A finite field; its members are tuples of n integers from 0 to p - 1, the coefficients of 1, t, t^2, .."""

    def __init__(self, p, modulus=(0, 1)):
        check_making(p, modulus)
        self.p = p
        self.modulus = tuple(modulus)
        self.n = len(modulus) - 1
        self.q = power_within(p, self.n, MOST_MEMBERS)
        self._members = tuple([digits(number, p, self.n) for number in range(self.q)])
        # Whoever factors multiplies often, and a product is quickly found as a sum of logarithms.
        self._powers = primitive_powers(self._members, p, self.modulus)
        self._logarithms = {a: k for k, a in enumerate(self._powers)}
        self._texts = {self.written(a): a for a in self._members}

    def __eq__(self, other):
        return isinstance(other, Field) and self.p == other.p and self.modulus == other.modulus

    def is_member(self, value):
        """True if the value is a member, for every value."""
        if not isinstance(value, tuple) or len(value) != self.n:
            return False
        return all([is_integer(item) and 0 <= item < self.p for item in value])

    def zero(self):
        """The member 0."""
        return self._members[0]

    def one(self):
        """The member 1."""
        return self._members[1]

    def generator(self):
        """The member t, modulo the modulus."""
        if self.n == 1:
            return self.integer(-self.modulus[0])
        return self._members[self.p]

    def integer(self, k):
        """The member k modulo p, for every integer k."""
        return self._members[k % self.p]

    def add(self, a, b):
        """The sum of two members."""
        return tuple([(x + y) % self.p for x, y in zip(a, b)])

    def subtract(self, a, b):
        """The difference of two members."""
        return tuple([(x - y) % self.p for x, y in zip(a, b)])

    def negative(self, a):
        """The member whose sum with a is zero."""
        return tuple([-x % self.p for x in a])

    def multiply(self, a, b):
        """The product of two members."""
        zero = self._members[0]
        if a == zero or b == zero:
            return zero
        return self._powers[(self._logarithms[a] + self._logarithms[b]) % (self.q - 1)]

    def inverse(self, a):
        """The member whose product with a is one; raises ZeroDivisor for zero."""
        return reciprocal(self, a)

    def divide(self, a, b):
        """The quotient of two members; raises ZeroDivisor if b is zero."""
        return self.multiply(a, self.inverse(b))

    def power(self, a, k):
        """a^k for every integer k; raises ZeroDivisor for zero and a negative k."""
        if a != self.zero():
            return self._powers[self._logarithms[a] * k % (self.q - 1)]
        if k < 0:
            raise ZeroDivisor("zero has no inverse")
        return self.one() if k == 0 else a

    def frobenius(self, a, k=1):
        """The power p^k of a, for k from 0 on."""
        result = a
        # The power p^n of a member is the member.
        for _ in range(k % self.n):
            result = self.power(result, self.p)
        return result

    def number(self, a):
        """The place of a in the order of the members, from 0 on."""
        number = 0
        for item in reversed(a):
            number = number * self.p + item
        return number

    def member(self, number):
        """The member with the number; raises Refused("number") if it is not from 0 to q - 1."""
        if not 0 <= number < self.q:
            raise Refused("number")
        return self._members[number]

    def members(self):
        """All members in the order of their numbers."""
        yield from self._members

    def written(self, a):
        """The text of a member."""
        terms = [written_term(a[k], k) for k in reversed(range(self.n)) if a[k] != 0]
        return "+".join(terms) if terms else "0"

    def read_member(self, text):
        """The member with the text; raises NoText(0) if there is none, for every value."""
        if not isinstance(text, str) or text not in self._texts:
            raise NoText(0)
        return self._texts[text]


# A function instead of the method inverse, because polynomials divide by it: what an operator calls by the name of
# a method counts as every method of that name, and the one of the maps goes through all members.
def reciprocal(field, a):
    """The member whose product with a is one; raises ZeroDivisor for zero."""
    if a == field._members[0]:
        raise ZeroDivisor("zero has no inverse")
    # Behind the last power comes one again, so the inverse stands as far from the end.
    return field._powers[-field._logarithms[a]]


def check_making(p, modulus):
    """Raises Malformed or Refused if there is no such field here."""
    if not is_integer(p) or not is_prime(p):
        raise Malformed("p is no prime number")
    if not isinstance(modulus, (tuple, list)):
        raise Malformed("the modulus is no tuple or list")
    if not all([is_integer(item) and 0 <= item < p for item in modulus]):
        raise Malformed("an item of the modulus is no integer from 0 to p - 1")
    if len(modulus) < 2 or modulus[-1] != 1:
        raise Malformed("the modulus is not monic of positive degree")
    if power_within(p, len(modulus) - 1, MOST_MEMBERS) is None:
        raise Refused("large")
    if not is_irreducible_row(tuple(modulus), p):
        raise Malformed("the modulus is not irreducible")


def primitive_powers(members, p, modulus):
    """The powers, from the power 0 on, of the first member of which all others but zero are powers."""
    at = 1
    powers = powers_of(members[at], p, modulus)
    while len(powers) < len(members) - 1:
        at = at + 1
        powers = powers_of(members[at], p, modulus)
    return powers


def powers_of(a, p, modulus):
    """The powers of a member other than zero, from the power 0 on, each once."""
    n = len(modulus) - 1
    shifted = [filled_up(divide_rows(trimmed((0,) * k + a, p), modulus, p)[1], n, 0) for k in range(n)]
    one = filled_up((1,), n, 0)
    powers = [one]
    power = a
    while power != one:
        powers.append(power)
        # The product with a is the sum of the products of the items with a, a t, a t^2, ..
        power = tuple([sum([x * row[k] for x, row in zip(power, shifted)]) % p for k in range(n)])
    return tuple(powers)


def written_term(coefficient, k):
    """The text of a term of a member, with a coefficient other than 0."""
    if k == 0:
        return f"{coefficient}"
    power = written_power("t", k)
    return power if coefficient == 1 else f"{coefficient}*{power}"


def written_power(name, k):
    """The text of a power of what has the name, k from 1 on."""
    return name if k == 1 else f"{name}^{k}"

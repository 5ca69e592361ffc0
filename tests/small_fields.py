"""Fields for the tests of linear equations: with the six methods of point 1.2 and no others."""

from fieldmaps.errors import ZeroDivisor


class PrimeField:
    """The integers modulo a prime, as tuples of one integer."""

    def __init__(self, p):
        self._p = p

    def zero(self):
        return (0,)

    def one(self):
        return (1,)

    def add(self, a, b):
        return ((a[0] + b[0]) % self._p,)

    def negative(self, a):
        return (-a[0] % self._p,)

    def multiply(self, a, b):
        return (a[0] * b[0] % self._p,)

    def inverse(self, a):
        if a == (0,):
            raise ZeroDivisor("zero has no inverse")
        return (pow(a[0], -1, self._p),)


class SquareField:
    """The sums a + b t modulo a prime p, with t^2 = c + d t, as pairs (a, b)."""

    def __init__(self, p, c, d):
        self._p = p
        self._c = c
        self._d = d

    def zero(self):
        return (0, 0)

    def one(self):
        return (1, 0)

    def add(self, a, b):
        return ((a[0] + b[0]) % self._p, (a[1] + b[1]) % self._p)

    def negative(self, a):
        return (-a[0] % self._p, -a[1] % self._p)

    def multiply(self, a, b):
        high = a[1] * b[1]
        return (
            (a[0] * b[0] + self._c * high) % self._p,
            (a[0] * b[1] + a[1] * b[0] + self._d * high) % self._p,
        )

    def inverse(self, a):
        for b in square_members(self._p):
            if self.multiply(a, b) == self.one():
                return b
        raise ZeroDivisor("zero has no inverse")


def prime_members(p):
    return [(a,) for a in range(p)]


def square_members(p):
    return [(a, b) for b in range(p) for a in range(p)]


def over(p, *rows):
    """The matrix over the prime field p with these integers."""
    return tuple(vector(p, *row) for row in rows)


def vector(p, *numbers):
    return tuple((number % p,) for number in numbers)


TWO = PrimeField(2)
THREE = PrimeField(3)
FIVE = PrimeField(5)
SEVEN = PrimeField(7)
FOUR = SquareField(2, 1, 1)
NINE = SquareField(3, 2, 0)

# Each field with the list of its members.
ALL_FIELDS = (
    (TWO, prime_members(2)),
    (THREE, prime_members(3)),
    (FIVE, prime_members(5)),
    (FOUR, square_members(2)),
    (NINE, square_members(3)),
)

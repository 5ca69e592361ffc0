"""Whole numbers: primes, divisors, and numbers modulo a number."""

from math import gcd

from fieldmaps.errors import ZeroDivisor


def is_integer(value):
    """True if the value is an integer and not True or False."""
    return isinstance(value, int) and not isinstance(value, bool)


def is_prime(n):
    """True if the integer n is a prime number."""
    return n > 1 and least_divisor(n, 2) == n


def least_divisor(n, start):
    """The least prime divisor of n, from 2 on, if all of them are at least the prime number start."""
    candidate = start
    while candidate * candidate <= n:
        if n % candidate == 0:
            return candidate
        candidate = 3 if candidate == 2 else candidate + 2
    return n


def prime_powers(n):
    """The pairs (p, k), ascending, with n, from 1 on, the product of the p^k."""
    pairs = []
    rest = n
    p = 2
    while rest > 1:
        # The primes below p are already divided out of the rest.
        p = least_divisor(rest, p)
        k = 0
        while rest % p == 0:
            rest = rest // p
            k += 1
        pairs.append((p, k))
    return tuple(pairs)


def prime_divisors(n):
    """The ascending tuple of the prime numbers that divide n, from 1 on."""
    return tuple([p for p, _ in prime_powers(n)])


def divisors(n):
    """The positive divisors of n, from 1 on, ascending."""
    found = [1]
    for p, k in prime_powers(n):
        multiples = found
        for _ in range(k):
            multiples = [p * divisor for divisor in multiples]
            found = found + multiples
    return tuple(sorted(found))


def common(numbers):
    """The greatest common divisor of integers, 0 if all are 0 or there are none."""
    divisor = 0
    for number in numbers:
        divisor = gcd(divisor, number)
    return divisor


def cofactors(a, b):
    """(g, u, v) with the greatest common divisor g and g = u a + v b."""
    g, u, v = a, 1, 0
    rest, rest_u, rest_v = b, 0, 1
    # Each round keeps g = u a + v b, and the same for the rest.
    while rest != 0:
        quotient = g // rest
        g, rest = rest, g - quotient * rest
        u, rest_u = rest_u, u - quotient * rest_u
        v, rest_v = rest_v, v - quotient * rest_v
    if g < 0:
        return -g, -u, -v
    return g, u, v


def by_squaring(one, base, k, product):
    """The product of k times the base, for k from 0 on, where product(x, y) multiplies and one is its unit."""
    power = one
    square = base
    rest = k
    while rest > 0:
        if rest % 2 == 1:
            power = product(power, square)
        rest = rest // 2
        # The last square would be the largest one, and nothing needs it.
        if rest > 0:
            square = product(square, square)
    return power


def least_exponent(start, is_one):
    """The least exponent from 1 on with the power one, where is_one(k) tells so of the power k; `start` has it."""
    exponent = start
    for p, k in prime_powers(start):
        for _ in range(k):
            # The exponents with the power one are the multiples of the least one.
            if is_one(exponent // p):
                exponent = exponent // p
    return exponent


def power_modulo(a, k, m):
    """The remainder of a^k by m, for k from 0 on and m from 1 on."""
    # With the modulus 1 the power 0 is 0, too.
    return by_squaring(1 % m, a % m, k, lambda x, y: x * y % m)


def power_within(a, k, limit):
    """a^k, for a from 2 and k from 0 on, or None if it is above the limit."""
    power = 1
    for _ in range(k):
        power = power * a
        # Powers far beyond the limit would take long to work out.
        if power > limit:
            return None
    return power


def digits(number, base, count):
    """The tuple of the last `count` digits of a number from 0 on, the ones first."""
    found = []
    rest = number
    for _ in range(count):
        found.append(rest % base)
        rest = rest // base
    return tuple(found)


def inverse_modulo(a, m):
    """The inverse of a modulo m, from 0 to m - 1; raises ZeroDivisor if a and m are not coprime."""
    g, u, _ = cofactors(a, m)
    if g != 1:
        raise ZeroDivisor("the number and the modulus are not coprime")
    return u % m


def moebius(n):
    """The Moebius number of n, from 1 on."""
    number = 1
    for _, k in prime_powers(n):
        if k > 1:
            return 0
        number = -number
    return number

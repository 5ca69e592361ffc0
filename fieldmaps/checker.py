"""The checker: it reads papers, and uses nothing of what found the results that they show."""

from fieldmaps.linear import combine, dot, unit_vector, windows
from fieldmaps.poly import Poly, power_of_x, unit, variable
from fieldmaps.whole import is_integer, prime_divisors


def takes_irreducible(f, paper):
    """True if the value is a paper of irreducibility for the polynomial f."""
    n = f.degree()
    if not is_paper(paper, "irreducible", 2) or n < 1 or f.leading() != f.field.one():
        return False
    primes = prime_divisors(n)
    pairs = paper[1]
    if not is_tuple_of(pairs, len(primes)) or not all([is_pair_of_rows(f.field, pair) for pair in pairs]):
        return False
    if not rest_of_difference(f, n).is_zero():
        return False
    return all([is_coprime_by(f, rest_of_difference(f, n // p), pair) for p, pair in zip(primes, pairs)])


def is_coprime_by(f, r, pair):
    """True if the pair of rows (u, v) has the sum u f + v r one."""
    u = Poly(f.field, pair[0])
    v = Poly(f.field, pair[1])
    return u * f + v * r == unit(f.field)


def rest_of_difference(f, k):
    """The remainder of x^(q^k) - x by f."""
    return (power_of_x(f, k) - variable(f.field)) % f


def takes_factors(f, paper):
    """True if the value is a paper of factors for the polynomial f."""
    field = f.field
    if not is_paper(paper, "factors", 3) or f.is_zero():
        return False
    leading = paper[1]
    parts = paper[2]
    if not field.is_member(leading) or leading != f.leading():
        return False
    if not isinstance(parts, tuple) or not all([is_part(field, part) for part in parts]):
        return False
    pairs = [(Poly(field, part[0]), part[1]) for part in parts]
    # With the degrees held together first, no great power is multiplied out, and no great factor looked at.
    if sum([g.degree() * k for g, k in pairs]) != f.degree():
        return False
    if not is_ascending([g.key() for g, _ in pairs]):
        return False
    if not all([takes_irreducible(Poly(field, part[0]), part[2]) for part in parts]):
        return False
    whole = unit(field)
    for g, k in pairs:
        whole = whole * g.power(k)
    return whole.scaled(leading) == f


def is_part(field, value):
    """True if the value is a triple of the row of a polynomial of positive degree, an integer from 1 on, and more."""
    return is_tuple_of(value, 3) and is_row(field, value[0]) and len(value[0]) > 1 and is_positive(value[1])


def takes_maps(a, b, paper):
    """True if the value is a paper of maps for the fields a and b."""
    if not is_paper(paper, "maps", 2):
        return False
    images = paper[1]
    if a.p != b.p or a.n != b.n:
        return images == ()
    if not is_vector(b, images) or len(images) != a.n:
        return False
    modulus = Poly(b, [b.integer(item) for item in a.modulus])
    ascending = is_ascending([b.number(image) for image in images])
    return ascending and all([modulus(image) == b.zero() for image in images])


def takes_order(field, a, paper):
    """True if the values are a member other than zero and a paper of its order."""
    if not is_paper(paper, "order", 3) or not field.is_member(a) or a == field.zero():
        return False
    m = paper[1]
    if not is_positive(m) or m > field.q - 1 or paper[2] != prime_divisors(m):
        return False
    one = field.one()
    return field.power(a, m) == one and all([field.power(a, m // p) != one for p in paper[2]])


def takes_recurrence(field, terms, paper):
    """True if the values are a tuple of members and a paper of a recurrence for it."""
    if not is_paper(paper, "recurrence", 3) or not is_vector(field, terms) or not is_vector(field, paper[1]):
        return False
    multiples = paper[1]
    weights = paper[2]
    length = len(multiples)
    if len(terms) < 2 * length or not is_tuple_of(weights, length):
        return False
    if not all([is_vector(field, row) and len(row) == length for row in weights]):
        return False
    followed = windows(terms, length, len(terms) - length)
    if terms[length:] != tuple([dot(field, multiples, window) for window in followed]):
        return False
    table = windows(terms, length, length)
    products = [combine(field, table, length, row) for row in weights]
    return products == [unit_vector(field, length, at) for at in range(length)]


def is_paper(value, word, length):
    """True if the value is a tuple of the length that begins with the word."""
    return is_tuple_of(value, length) and value[0] == word


def is_tuple_of(value, length):
    """True if the value is a tuple of the length."""
    return isinstance(value, tuple) and len(value) == length


def is_vector(field, value):
    """True if the value is a tuple of members."""
    return isinstance(value, tuple) and all([field.is_member(item) for item in value])


def is_row(field, value):
    """True if the value is the row of a polynomial: a tuple of members, the last one not zero."""
    return is_vector(field, value) and (len(value) == 0 or value[-1] != field.zero())


def is_pair_of_rows(field, value):
    """True if the value is a tuple of two rows."""
    return is_tuple_of(value, 2) and is_row(field, value[0]) and is_row(field, value[1])


def is_positive(value):
    """True if the value is an integer from 1 on."""
    return is_integer(value) and value > 0


def is_ascending(keys):
    """True if each of the keys is above the one before it."""
    return all([low < high for low, high in zip(keys, keys[1:])])

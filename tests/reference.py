"""What points 7.2 to 7.6 ask of papers, reckoned by their words, without the checker and the operators of polynomials.

Each function returns True or False for every value of the paper.
"""

from tests.plain import cut, primes_of, product_of_members, walked_power


def is_whole(value):
    return type(value) is int


def is_word_and(value, word, length):
    return type(value) is tuple and len(value) == length and type(value[0]) is str and value[0] == word


def is_member(field, value):
    return (
        type(value) is tuple and len(value) == len(field.modulus) - 1
        and all(is_whole(item) and 0 <= item < field.p for item in value)
    )


def are_members(field, value):
    return type(value) is tuple and all(is_member(field, item) for item in value)


def is_row(field, value):
    return are_members(field, value) and (not value or any(value[-1]))


def number(field, a):
    return sum(item * field.p**k for k, item in enumerate(a))


def added(field, a, b):
    """The coefficients of the sum of two polynomials."""
    length = max(len(a), len(b))
    full_a = tuple(a) + (field.zero(),) * (length - len(a))
    full_b = tuple(b) + (field.zero(),) * (length - len(b))
    return cut([field.add(x, y) for x, y in zip(full_a, full_b)], field.zero())


def rest_by(field, a, m):
    """The coefficients of the remainder by a monic polynomial."""
    rest = list(a)
    while len(rest) >= len(m):
        top, start = rest[-1], len(rest) - len(m)
        for k, item in enumerate(m):
            rest[start + k] = field.subtract(rest[start + k], field.multiply(top, item))
        rest.pop()
    return cut(rest, field.zero())


def difference_rest(field, row, k):
    """The remainder of x^(q^k) - x by a monic polynomial, by products one after the other."""
    x = (field.zero(), field.one())
    power = rest_by(field, x, row)
    for _ in range(k):
        start, power = power, rest_by(field, (field.one(),), row)
        for _ in range(field.q):
            power = rest_by(field, product_of_members(field, power, start), row)
    return rest_by(field, added(field, power, (field.zero(), field.negative(field.one()))), row)


def combined(field, a, b):
    total = field.zero()
    for x, y in zip(a, b, strict=True):
        total = field.add(total, field.multiply(x, y))
    return total


def right_irreducible(field, row, paper):
    """Point 7.2, for the polynomial with the row."""
    n = len(row) - 1
    if n < 1 or row[-1] != field.one() or not is_word_and(paper, "irreducible", 2):
        return False
    pairs = paper[1]
    if type(pairs) is not tuple or len(pairs) != len(primes_of(n)) or difference_rest(field, row, n) != ():
        return False
    for divisor, pair in zip(primes_of(n), pairs):
        if type(pair) is not tuple or len(pair) != 2 or not all(is_row(field, item) for item in pair):
            return False
        left = product_of_members(field, pair[0], row)
        right = product_of_members(field, pair[1], difference_rest(field, row, n // divisor))
        if added(field, left, right) != (field.one(),):
            return False
    return True


def right_factors(field, row, paper):
    """Point 7.3, for the polynomial with the row."""
    if not row or not is_word_and(paper, "factors", 3):
        return False
    _, leading, parts = paper
    if not is_member(field, leading) or leading != row[-1] or type(parts) is not tuple:
        return False
    keys, whole = [], (leading,)
    for part in parts:
        if type(part) is not tuple or len(part) != 3 or not is_row(field, part[0]):
            return False
        if not is_whole(part[1]) or not 1 <= part[1] < len(row) or not right_irreducible(field, part[0], part[2]):
            return False
        keys.append((len(part[0]), *[number(field, item) for item in reversed(part[0])]))
        for _ in range(part[1]):
            whole = product_of_members(field, whole, part[0])
    return keys == sorted(set(keys)) and whole == row


def right_maps(a, b, paper):
    """Point 7.4."""
    if not is_word_and(paper, "maps", 2):
        return False
    images = paper[1]
    if (a.p, len(a.modulus)) != (b.p, len(b.modulus)):
        return type(images) is tuple and not images
    if not are_members(b, images) or len(images) != len(a.modulus) - 1:
        return False
    numbers = [number(b, image) for image in images]
    return numbers == sorted(set(numbers)) and all(value_of_modulus(a, b, image) == b.zero() for image in images)


def value_of_modulus(a, b, image):
    value = b.zero()
    for k, item in enumerate(a.modulus):
        value = b.add(value, b.multiply(b.integer(item), walked_power(b, image, k)))
    return value


def right_order(field, a, paper):
    """Point 7.5, for every value of a."""
    if not is_word_and(paper, "order", 3) or not is_member(field, a) or not any(a):
        return False
    _, m, primes = paper
    if not is_whole(m) or not 1 <= m <= field.q - 1:
        return False
    if type(primes) is not tuple or not all(is_whole(item) for item in primes) or list(primes) != primes_of(m):
        return False
    if walked_power(field, a, m) != field.one():
        return False
    return all(walked_power(field, a, m // divisor) != field.one() for divisor in primes)


def right_recurrence(field, terms, paper):
    """Point 7.6, for every value of the terms."""
    if not is_word_and(paper, "recurrence", 3) or not are_members(field, terms) or not are_members(field, paper[1]):
        return False
    _, multiples, weights = paper
    length = len(multiples)
    if len(terms) < 2 * length or type(weights) is not tuple or len(weights) != length:
        return False
    if not all(are_members(field, row) and len(row) == length for row in weights):
        return False
    for k in range(len(terms) - length):
        if terms[k + length] != combined(field, multiples, terms[k:k + length]):
            return False
    for i, j in ((i, j) for i in range(length) for j in range(length)):
        item = combined(field, weights[i], [terms[k + j] for k in range(length)])
        if item != (field.one() if i == j else field.zero()):
            return False
    return True

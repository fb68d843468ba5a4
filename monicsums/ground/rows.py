"""Polynomials as tuples of coefficients: what is done with them, where nothing is checked."""

from monicsums.ground.bits import bits_common, bits_divided
from monicsums.ground.fields import repeated_product, root_of
from monicsums.ground.packing import packed_product
from monicsums.ground.slots import slots_common, slots_divided
from monicsums.ground.tables import INVERSES, OPPOSITES, PRIMES, PRODUCTS, SUMS

# With more coefficients than this that are not 0 a product is quicker by packing.
FEW = 8
# With more coefficients than this in the divisor a division is quicker by packing.
SHORT = 16
# The same for bits, over the fields with p = 2.
SHORT_BITS = 4


def is_row_over(q, value, most):
    """Whether the value is a polynomial over the field, of a degree of at most `most`."""
    if not isinstance(value, tuple) or len(value) > most + 1:
        return False
    # Told here, and not by a call for each coefficient, as polynomials are judged more often than anything else.
    if not all([isinstance(x, int) and not isinstance(x, bool) and 0 <= x < q for x in value]):
        return False
    return len(value) == 0 or value[-1] != 0


def trimmed(row):
    """The tuple of the members of a list without the zeros at its end."""
    end = len(row)
    while end > 0 and row[end - 1] == 0:
        end -= 1
    return tuple(row[:end])


def row_sum(q, a, b):
    """The sum of two polynomials."""
    sums = SUMS[q]
    shared = [sums[x][y] for x, y in zip(a, b)]
    return trimmed(shared + list(a[len(b):]) + list(b[len(a):]))


def row_opposite(q, a):
    """The polynomial that adds to a to 0."""
    opposites = OPPOSITES[q]
    return tuple([opposites[x] for x in a])


def row_less(q, a, b):
    """a less b."""
    return row_sum(q, a, row_opposite(q, b))


def row_scaled(q, element, a):
    """The element times a."""
    products = PRODUCTS[q][element]
    return trimmed([products[x] for x in a])


def row_less_scaled(q, a, element, b):
    """a less the element times b."""
    sums = SUMS[q]
    products = PRODUCTS[q][OPPOSITES[q][element]]
    shared = [sums[x][products[y]] for x, y in zip(a, b)]
    return trimmed(shared + list(a[len(b):]) + [products[y] for y in b[len(a):]])


def row_monic(q, a):
    """The monic polynomial that is a times an element; a is not 0."""
    return row_scaled(q, INVERSES[q][a[-1]], a)


def many_terms(a):
    """How many coefficients of a are not 0."""
    return len(a) - a.count(0)


def row_product(q, a, b):
    """The product of two polynomials."""
    if len(a) == 0 or len(b) == 0:
        return ()
    if many_terms(a) <= FEW:
        return product_by_terms(q, a, b)
    if many_terms(b) <= FEW:
        return product_by_terms(q, b, a)
    return tuple(packed_product(q, a, b))


def product_by_terms(q, a, b):
    """The product of two polynomials other than 0, the second one times each term of the first one."""
    sums = SUMS[q]
    made = [0] * (len(a) + len(b) - 1)
    for at, element in enumerate(a):
        if element != 0:
            products = PRODUCTS[q][element]
            end = at + len(b)
            made = made[:at] + [sums[x][products[y]] for x, y in zip(made[at:end], b)] + made[end:]
    return tuple(made)


def row_divided(q, a, b):
    """The quotient and the rest of a divided by b, which is not 0."""
    if len(a) < len(b):
        return (), a
    if PRIMES[q] == 2 and len(b) > SHORT_BITS:
        quotient, rest = bits_divided(q, a, b)
    elif len(b) > SHORT:
        quotient, rest = slots_divided(q, a, b)
    else:
        quotient, rest = divided_by_terms(q, a, b)
    return tuple(quotient), trimmed(rest)


def divided_by_terms(q, a, b):
    """The lists of the coefficients of the quotient and of the rest of a divided by b, which is not longer."""
    sums = SUMS[q]
    inverses = PRODUCTS[q][INVERSES[q][b[-1]]]
    low = b[:-1]
    quotient = []
    # The rest so far, without the lower coefficients of a, which are taken one by one.
    rest = list(a[len(a) - len(low):])
    for x in a[len(a) - len(b)::-1]:
        window = [x] + rest
        element = inverses[window[-1]]
        quotient.append(element)
        products = PRODUCTS[q][OPPOSITES[q][element]]
        rest = [sums[y][products[z]] for y, z in zip(window, low)]
    return quotient[::-1], rest


def row_stretched(a, times):
    """The polynomial a with T ** times put in for T."""
    gap = (0,) * (times - 1)
    return tuple([x for y in a[:-1] for x in (y,) + gap]) + a[-1:]


def row_prime_power(q, a):
    """The p-th power of a: the p-th powers of its terms."""
    p = PRIMES[q]
    if p == q:
        return row_stretched(a, p)
    return row_stretched(tuple([repeated_product(q, x, p) for x in a]), p)


def row_prime_root(q, a):
    """The polynomial whose p-th power is a, where there is one."""
    return tuple([root_of(q, element) for element in a[::PRIMES[q]]])


def row_power(q, a, k):
    """The k-th power of a."""
    if len(a) == 0 and k > 0:
        return ()
    if len(a) == 1:
        return (repeated_product(q, a[0], k),)
    p = PRIMES[q]
    made = (1,)
    left = k
    step = a
    # By the digits of k in base p: p-th powers have few terms, and are cheap.
    while left > 0:
        for _ in range(left % p):
            made = row_product(q, made, step)
        left = left // p
        if left > 0:
            step = row_prime_power(q, step)
    return made


def row_power_rest(q, a, k, m):
    """The rest of the k-th power of a modulo m, which is not 0."""
    degree = len(m) - 1
    if degree == 0:
        return ()
    # The quotient of T ** (2 * degree) by m spares a division for each rest.
    turned = row_divided(q, (0,) * (2 * degree) + (1,), m)[0]
    made = (1,)
    left = k
    step = row_divided(q, a, m)[1]
    while left > 0:
        if left % 2 == 1:
            made = rest_by_products(q, row_product(q, made, step), m, turned)
        left = left // 2
        if left > 0:
            step = rest_by_products(q, row_product(q, step, step), m, turned)
    return made


def rest_by_products(q, a, m, turned):
    """The rest modulo m of a, whose degree is at most twice that of m."""
    degree = len(m) - 1
    if len(a) <= degree:
        return a
    quotient = row_product(q, a, turned)[2 * degree:]
    return row_less(q, a, row_product(q, quotient, m))


def row_common_divisor(q, a, b):
    """The monic common divisor of the greatest degree; 0 if both are 0."""
    if len(a) < len(b):
        return row_common_divisor(q, b, a)
    if len(b) > SHORT_BITS and PRIMES[q] == 2:
        return row_monic(q, tuple(bits_common(q, a, b)))
    if len(b) > SHORT:
        return row_monic(q, tuple(slots_common(q, a, b)))
    one = common_by_terms(q, a, b)
    if len(one) == 0:
        return ()
    return row_monic(q, one)


def common_by_terms(q, a, b):
    """A common divisor of the greatest degree; b is not longer than a."""
    one = a
    other = b
    while len(other) > 0:
        rest = divided_by_terms(q, one, other)[1]
        one = other
        other = trimmed(rest)
    return one


def row_value(q, a, element):
    """The value of a at an element."""
    products = PRODUCTS[q][element]
    made = 0
    for x in a[::-1]:
        made = SUMS[q][products[made]][x]
    return made


def row_monics(q, d):
    """The ascending list of all monic polynomials of degree d."""
    heads = [()]
    for _ in range(d):
        heads = [head + (element,) for head in heads for element in range(q)]
    return [head + (1,) for head in heads]

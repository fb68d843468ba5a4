"""Sums of powers of monic polynomials, one by one and by a series."""

from monicsums.errors import TooMany
from monicsums.ground.fields import check_field
from monicsums.ground.integers import check_d, check_from, whole_power
from monicsums.ground.polys import check_made, check_polynomial
from monicsums.ground.rows import row_less, row_monics, row_opposite, row_power, row_product, row_sum

MAX_SUMMED = 300
MAX_TERMS = 400


def check_sum(q, d, k):
    """Raise an error unless q, d and k may tell a sum of powers."""
    check_field(q)
    check_d(d)
    check_from(k, 0)


def check_summed(q, d, k):
    """Raise TooMany if the k-th powers of all monic polynomials of degree d are too many or too long."""
    if whole_power(q, d) > MAX_SUMMED:
        raise TooMany(MAX_SUMMED)
    check_made(d * k)


def plain_sum(q, d, k):
    """S(d, k), each power added by itself; nothing is checked."""
    total = ()
    for a in row_monics(q, d):
        total = row_sum(q, total, row_power(q, a, k))
    return total


def power_sum(q, d, k):
    """S(d, k), each power added by itself."""
    check_sum(q, d, k)
    check_summed(q, d, k)
    return plain_sum(q, d, k)


def two_powers(q, i, j):
    """T ** (q ** i) less T ** (q ** j), where i is above j."""
    return row_less(q, (0,) * whole_power(q, i) + (1,), (0,) * whole_power(q, j) + (1,))


def product_of_all(q, d):
    """D(d); nothing is checked."""
    made = (1,)
    for j in range(d):
        made = row_product(q, made, two_powers(q, d, j))
    return made


def all_product(q, d):
    """D(d), the product of all monic polynomials of degree d."""
    check_field(q)
    check_d(d)
    check_made(d * whole_power(q, d))
    return product_of_all(q, d)


def multiple_degree(q, d):
    """The degree of L(d); nothing is checked."""
    return sum([whole_power(q, j) for j in range(1, d + 1)])


def multiple_of_all(q, d):
    """L(d); nothing is checked."""
    made = (1,)
    for j in range(1, d + 1):
        made = row_product(q, made, two_powers(q, j, 0))
    return made


def least_multiple(q, d):
    """L(d), the least common multiple of all monic polynomials of degree d."""
    check_field(q)
    check_d(d)
    check_made(multiple_degree(q, d))
    return multiple_of_all(q, d)


def next_low(q, d, lows):
    """The coefficients of e(d + 1), by those of e(d): e(d) ** q less D(d) ** (q - 1) e(d)."""
    factor = row_power(q, product_of_all(q, d), q - 1)
    raised = [()] + [row_power(q, low, q) for low in lows]
    taken = [row_product(q, factor, low) for low in lows] + [()]
    return [row_less(q, one, other) for one, other in zip(raised, taken)]


def low_list(q, d):
    """The list of the coefficients of e(d); nothing is checked."""
    lows = [(1,)]
    for i in range(d):
        lows = next_low(q, i, lows)
    return lows


def low_coefficients(q, d):
    """The coefficients of e(d) at x ** (q ** i) for i from 0 to d."""
    check_field(q)
    check_d(d)
    # The coefficient at x has the greatest degree: it is D(d) divided by L(d), with a sign.
    check_made(d * whole_power(q, d) - multiple_degree(q, d))
    return tuple(low_list(q, d))


def low_value(q, d, a):
    """The value of e(d) at a."""
    check_field(q)
    check_d(d)
    check_polynomial(q, a)
    degree = len(a) - 1
    if degree < d:
        return ()
    # The value is a product of q ** d polynomials that have the degree of a.
    check_made(degree * whole_power(q, d))
    made = a
    for i in range(d):
        factor = row_power(q, product_of_all(q, i), q - 1)
        made = row_less(q, row_power(q, made, q), row_product(q, factor, made))
    return made


def inverse_terms(q, gaps, many):
    """The list of the first coefficients of 1 / (1 - the sum of c * y ** gap over the pairs (gap, c))."""
    terms = [(1,)]
    for at in range(1, many):
        total = ()
        for gap, coefficient in gaps:
            if gap <= at:
                total = row_sum(q, total, row_product(q, coefficient, terms[at - gap]))
        terms.append(total)
    return terms


def sum_by_series(q, d, k):
    """S(d, k) by the series in 1 / x of the sum of 1 / (x - a) over all monic a of degree d."""
    check_sum(q, d, k)
    size = whole_power(q, d)
    if k > MAX_TERMS or size > MAX_TERMS:
        raise TooMany(MAX_TERMS)
    check_made(d * k)
    place = k + 1 - size
    if place < 0:
        return ()
    lows = low_list(q, d)
    gaps = [(size - whole_power(q, i), row_opposite(q, low)) for i, low in enumerate(lows[:-1])]
    gaps.append((size, product_of_all(q, d)))
    return row_product(q, lows[0], inverse_terms(q, gaps, place + 1)[place])


def sums_below(q, d, k):
    """The sum of the k-th powers of all polynomials of degree below d but 0."""
    check_sum(q, d, k)
    if d == 0:
        return ()
    check_summed(q, d - 1, k)
    # Each monic polynomial stands for its products with all elements, whose k-th powers add up to -1 or 0.
    if k % (q - 1) != 0:
        return ()
    total = ()
    for i in range(d):
        total = row_sum(q, total, plain_sum(q, i, k))
    return row_opposite(q, total)

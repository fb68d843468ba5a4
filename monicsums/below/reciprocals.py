"""Sums of powers of reciprocals of monic polynomials, and their degrees."""

from monicsums.below.steps import first_step_of, steps_degree
from monicsums.below.tops import over_power, reciprocal_top
from monicsums.errors import Refused, TooMany
from monicsums.ground.bottoms import common_multiple
from monicsums.ground.fields import check_field
from monicsums.ground.integers import check_between, check_from, whole_power
from monicsums.ground.polys import check_made
from monicsums.ground.rows import row_divided, row_monics, row_power, row_product, row_sum
from monicsums.ground.tables import POWERS, PRIMES
from monicsums.sums.plain import MAX_SUMMED, multiple_degree, multiple_of_all

MAX_TOLD_POWER = 100
MAX_STEPS = 100
# There are more than 300 monic polynomials of each greater degree, over each field.
MOST_DEGREE = 8


def check_many(q, d):
    """Raise TooMany if there are too many monic polynomials of degree d."""
    if d > MOST_DEGREE or whole_power(q, d) > MAX_SUMMED:
        raise TooMany(MAX_SUMMED)


def check_reciprocal(q, d, k):
    """Raise an error unless the sum S(d, -k) is told."""
    check_field(q)
    check_from(d, 0)
    check_between(k, 1, MAX_TOLD_POWER)
    check_many(q, d)
    check_made(multiple_degree(q, d) * k)


def joined(q, one, other, k):
    """The sum of two pairs: a pair (base, top) stands for the quotient of the top by base ** k."""
    base = common_multiple(q, one[0], other[0])
    total = ()
    for part, top in (one, other):
        factor = row_power(q, row_divided(q, base, part)[0], k)
        total = row_sum(q, total, row_product(q, top, factor))
    return base, total


def sum_of_pairs(q, pairs, k):
    """The sum of such pairs, of which there is one at least: the bases grow slowly if neighbours are added first."""
    if len(pairs) == 1:
        return pairs[0]
    half = len(pairs) // 2
    return joined(q, sum_of_pairs(q, pairs[:half], k), sum_of_pairs(q, pairs[half:], k), k)


def reciprocal_sum(q, d, k):
    """S(d, -k), each reciprocal added by itself."""
    check_reciprocal(q, d, k)
    p = PRIMES[q]
    least = k
    while least % p == 0:
        least = least // p
    base, top = sum_of_pairs(q, [(a, (1,)) for a in row_monics(q, d)], least)
    # The p-th power of a sum is the sum of the p-th powers.
    return tuple([row_power(q, part, k // least) for part in over_power(q, top, base, least)])


def reciprocal_by_series(q, d, k):
    """S(d, -k) by the series in x of the sum of 1 / (x - a) over all monic a of degree d."""
    check_reciprocal(q, d, k)
    return over_power(q, reciprocal_top(q, d, k), multiple_of_all(q, d), k)


def degree_below(q, d, k):
    """The degree of the bottom of S(d, -k) less that of its top; nothing is checked."""
    return multiple_degree(q, d) * k - (len(reciprocal_top(q, d, k)) - 1)


def below_degree(q, d, k):
    """The degree of the bottom of S(d, -k) less that of its top."""
    check_reciprocal(q, d, k)
    return degree_below(q, d, k)


def first_step(q, k):
    """The degree of the bottom of S(1, -k) less that of its top, told by digits."""
    check_field(q)
    check_from(k, 1)
    return first_step_of(q, k)


def degree_by_steps(q, d, k):
    """The degree of the bottom of S(d, -k) less that of its top over a prime field, by d steps."""
    check_field(q)
    check_between(d, 0, MAX_STEPS)
    check_from(k, 1)
    if POWERS[q] > 1:
        raise Refused(("prime",))
    return steps_degree(q, d, k)


def step_row_below(q, d, k):
    """How much the degree of the bottom of S(i, -k) less that of its top grows from each i to the next one, up to d."""
    check_reciprocal(q, d, k)
    degrees = [degree_below(q, i, k) for i in range(d + 1)]
    return tuple([degrees[i + 1] - degrees[i] for i in range(d)])

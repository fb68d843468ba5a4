"""Sums of reciprocals over powers of L(d), told by one series; nothing is checked.

With E(i) for the coefficients of e(d), the sum of S(d, -k) x ** (k - 1) over all k is 1 / L(d), with a sign, divided by
1 less the sum of E(i) / D(d) x ** (q ** i). With L(d) x put in for x the coefficients of that are polynomials, so
S(d, -k) is such a polynomial divided by L(d) ** k.
"""

from monicsums.ground.brackets import times_brackets
from monicsums.ground.integers import whole_power
from monicsums.ground.rows import row_common_divisor, row_divided, row_opposite, row_power, row_prime_power
from monicsums.ground.rows import row_product, row_sum
from monicsums.ground.tables import PRIMES


def step_terms(q, d, most):
    """The dict from the exponents q ** i, up to `most`, to L(d) ** (q ** i) E(i) / D(d)."""
    found = {}
    for i in range(d + 1):
        size = whole_power(q, i)
        if size > most:
            return found
        # That is the power q ** i of L(d) over L(d - i), divided by D(i), with the sign (-1) ** (d - i).
        exponents = {j: size for j in range(d - i + 1, d + 1)}
        for j in range(1, i + 1):
            exponents[j] = exponents.get(j, 0) - whole_power(q, i - j)
        made = times_brackets(q, exponents, (1,))
        found[size] = made if (d - i) % 2 == 0 else row_opposite(q, made)
    return found


def sparse_product(q, one, other, most):
    """The product of two dicts from exponents to coefficients, as far as its exponents are at most `most`."""
    found = {}
    for i in one:
        for j in other:
            if i + j <= most:
                found[i + j] = row_sum(q, found.get(i + j, ()), row_product(q, one[i], other[j]))
    return found


def turned_terms(q, d, most):
    """The power p - 1 of 1 less the step terms, as a dict from exponents up to `most` to coefficients."""
    steps = step_terms(q, d, most)
    factor = {size: row_opposite(q, steps[size]) for size in steps}
    factor[0] = (1,)
    made = {0: (1,)}
    for _ in range(PRIMES[q] - 1):
        made = sparse_product(q, made, factor, most)
    return made


def turned_coefficient(q, terms, known, at):
    """The coefficient at x ** at of 1 divided by 1 less the step terms; what is found is kept in the dict."""
    if at not in known:
        p = PRIMES[q]
        total = ()
        # The inverse of a series is the p-th power of the inverse times the power p - 1 of the series.
        for exponent in terms:
            if exponent <= at and (at - exponent) % p == 0:
                lower = turned_coefficient(q, terms, known, (at - exponent) // p)
                total = row_sum(q, total, row_product(q, terms[exponent], row_prime_power(q, lower)))
        known[at] = total
    return known[at]


def reciprocal_top(q, d, k):
    """S(d, -k) times L(d) ** k, a polynomial."""
    made = turned_coefficient(q, turned_terms(q, d, k - 1), {0: (1,)}, k - 1)
    return made if d % 2 == 0 else row_opposite(q, made)


def without_shared(q, top, bottom, base, times):
    """The quotient of the top by the bottom without the divisors that the top shares with base ** times.

    That power divides the bottom.
    """
    shared = base
    left = top
    below = bottom
    many = 0
    # Each step divides by one factor of the power as far as the top has it. What it does not share once, it does not
    # share again, so a step looks at what the one ahead divided by alone, and never at the power as a whole.
    while many < times and len(shared) > 1:
        shared = row_common_divisor(q, left, shared)
        left = row_divided(q, left, shared)[0]
        below = row_divided(q, below, shared)[0]
        many += 1
    return left, below


def over_power(q, top, base, times):
    """The quotient of the top, which is not 0, by base ** times in lowest terms; the base is monic."""
    return without_shared(q, top, row_power(q, base, times), base, times)

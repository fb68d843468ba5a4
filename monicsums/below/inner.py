"""Inner sums over L(j), and the parts of the series that stop, as dicts from exponents of x; nothing is checked."""

from monicsums.below.tops import sparse_product
from monicsums.digits.rows import digit_row
from monicsums.ground.brackets import less_exponents, times_brackets
from monicsums.ground.integers import whole_power
from monicsums.ground.rows import row_divided, row_monics, row_prime_power, row_product, row_sum
from monicsums.ground.tables import PRIMES
from monicsums.ring.actions import coefficient_list
from monicsums.series.exponential import product_exponents
from monicsums.sums.plain import multiple_of_all


def prime_power_terms(q, terms):
    """The p-th power of a polynomial in x, a dict from exponents to coefficients."""
    p = PRIMES[q]
    return {p * exponent: row_prime_power(q, terms[exponent]) for exponent in terms}


def action_power(q, a, m):
    """C_a(x) ** m as a dict from exponents to coefficients."""
    p = PRIMES[q]
    step = {whole_power(q, i): part for i, part in enumerate(coefficient_list(q, a, len(a)))}
    most = m * whole_power(q, len(a) - 1)
    made = {0: (1,)}
    for digit in digit_row(p, m):
        for _ in range(digit):
            made = sparse_product(q, made, step, most)
        step = prime_power_terms(q, step)
    return made


def inner_tops(q, m, j):
    """The inner sum for m and j times L(j), as a dict from exponents to coefficients."""
    whole = multiple_of_all(q, j)
    total = {}
    for a in row_monics(q, j):
        factor = row_divided(q, whole, a)[0]
        terms = action_power(q, a, m)
        for exponent in terms:
            part = row_product(q, factor, terms[exponent])
            total[exponent] = row_sum(q, total.get(exponent, ()), part)
    return total


def raised_terms(q, terms, i):
    """The power q ** i of a polynomial in x."""
    made = terms
    size = whole_power(q, i)
    while size > 1:
        made = prime_power_terms(q, made)
        size = size // PRIMES[q]
    return made


def part_tops(q, m, n):
    """The part n for m times D(n), as a dict from exponents to coefficients."""
    whole = product_exponents(q, n)
    total = {}
    for i in range(n + 1):
        # 1 / D(i) and the power q ** i of 1 / L(n - i), over D(n).
        exponents = less_exponents(whole, product_exponents(q, i))
        exponents = less_exponents(exponents, {t: whole_power(q, i) for t in range(1, n - i + 1)})
        terms = raised_terms(q, inner_tops(q, m, n - i), i)
        for exponent in terms:
            part = terms[exponent]
            if len(part) > 0:
                part = times_brackets(q, exponents, part)
            total[exponent] = row_sum(q, total.get(exponent, ()), part)
    return total


def part_terms(q, m, n):
    """The part n for m, as a dict from exponents to coefficients other than 0."""
    below = less_exponents({}, product_exponents(q, n))
    tops = part_tops(q, m, n)
    return {exponent: times_brackets(q, below, tops[exponent]) for exponent in tops if len(tops[exponent]) > 0}

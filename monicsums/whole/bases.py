"""Rows as lists of polynomials, and their coordinates for the base rows; nothing is checked.

A list has the coefficients at 1, x, x ** 2 and so on. The base row of k is the product of all e_i(x) ** k_i over the
digits k_i of k in base q. So the factors of the base rows in a list are told by its digits in base e_d for the
greatest e_d that is not longer, then by those of each digit in base e_{d-1}, and so on down to x.
"""

from monicsums.digits.rows import digit_row
from monicsums.ground.integers import whole_power
from monicsums.ground.rows import row_less, row_product, row_sum
from monicsums.sums.plain import next_low


def least_above(q, n):
    """The least d from 0 on for which q ** d is above n."""
    d = 0
    while whole_power(q, d) <= n:
        d += 1
    return d


def told_maps(q, n):
    """The list of e_0, e_1 and so on of a degree of at most n in x, as lists of the pairs (exponent, coefficient)."""
    lows = [(1,)]
    found = []
    for d in range(least_above(q, n)):
        if d > 0:
            lows = next_low(q, d - 1, lows)
        found.append([(whole_power(q, i), low) for i, low in enumerate(lows)])
    return found


def list_times(q, terms, polys):
    """The product of a list and of an additive polynomial with these terms."""
    made = [() for _ in range(len(polys) + terms[-1][0])]
    for exponent, low in terms:
        for at, a in enumerate(polys):
            if len(a) > 0:
                made[at + exponent] = row_sum(q, made[at + exponent], row_product(q, low, a))
    return made


def base_list(q, k):
    """The list of the base row of k."""
    maps = told_maps(q, k)
    made = [(1,)]
    for d, digit in enumerate(digit_row(q, k)):
        for _ in range(digit):
            made = list_times(q, maps[d], made)
    return made


def list_divided(q, terms, polys):
    """The lists of the quotient and of the rest of a list divided by an additive polynomial with these terms.

    The last coefficient of the divisor is 1. The rest has as many members as the degree of the divisor.
    """
    rest = list(polys)
    size = terms[-1][0]
    quotient = []
    while len(rest) > size:
        lead = rest.pop()
        quotient.append(lead)
        base = len(rest) - size
        for exponent, low in terms[:-1]:
            if len(lead) > 0:
                rest[base + exponent] = row_less(q, rest[base + exponent], row_product(q, low, lead))
    return quotient[::-1], rest


def list_factors(q, maps, polys):
    """The list of the factors of the base rows in a list, as many as the list has members."""
    if len(polys) <= q:
        return polys
    terms = maps[least_above(q, len(polys) - 1) - 1]
    found = []
    left = polys
    while len(left) > terms[-1][0]:
        left, rest = list_divided(q, terms, left)
        found = found + list_factors(q, maps, rest)
    return found + list_factors(q, maps, left)


def list_of_factors(q, maps, factors):
    """The list in which the base rows have these factors."""
    if len(factors) <= q:
        return factors
    terms = maps[least_above(q, len(factors) - 1) - 1]
    size = terms[-1][0]
    lots = [factors[at:at + size] for at in range(0, len(factors), size)]
    made = list_of_factors(q, maps, lots[-1])
    for lot in lots[-2::-1]:
        lower = list_of_factors(q, maps, lot)
        made = list_times(q, terms, made)
        made = [row_sum(q, a, b) for a, b in zip(made, lower)] + made[size:]
    return made

"""Brackets, the polynomials T ** (q ** i) - T for i from 1 on: products with their powers and quotients by them.

Nothing is checked. Exponents of brackets are told by a dict from the numbers i to integers.
"""

from monicsums.digits.rows import digit_row
from monicsums.ground.integers import whole_power
from monicsums.ground.rows import row_less
from monicsums.ground.tables import PRIMES, SUMS


def terms_quotient(q, high, low, a):
    """a divided by T ** high - T ** low, which divides it."""
    sums = SUMS[q]
    gap = high - low
    # A coefficient of a is that of the quotient `high` places below, less that of the quotient `low` places below.
    # So each coefficient of the quotient, from the highest one on, is told by one that is `gap` places above.
    found = [0 for _ in range(gap)]
    for x in a[:high - 1:-1]:
        found.append(sums[x][found[-gap]])
    return tuple(found[:gap - 1:-1])


def bracket_terms(q, i, times):
    """The pairs (high, low) of exponents: the product of all T ** high - T ** low is the bracket i, so many times."""
    p = PRIMES[q]
    size = whole_power(q, i)
    pairs = []
    worth = 1
    # The p-th power of a bracket has two terms, too.
    for digit in digit_row(p, times):
        pairs = pairs + [(size * worth, worth) for _ in range(digit)]
        worth = worth * p
    return pairs


def times_bracket(q, i, times, a):
    """a, which is not 0, times the bracket i, so many times."""
    made = a
    for high, low in bracket_terms(q, i, times):
        made = row_less(q, (0,) * high + made, (0,) * low + made)
    return made


def over_bracket(q, i, times, a):
    """a, which is not 0, divided by the bracket i, so many times."""
    made = a
    for high, low in bracket_terms(q, i, times):
        made = terms_quotient(q, high, low, made)
    return made


def times_brackets(q, exponents, a):
    """a, which is not 0, times the brackets to these powers, also below 0, if that is a polynomial."""
    made = a
    for i in exponents:
        if exponents[i] > 0:
            made = times_bracket(q, i, exponents[i], made)
    for i in exponents:
        if exponents[i] < 0:
            made = over_bracket(q, i, -exponents[i], made)
    return made


def less_exponents(one, other):
    """The exponents of the quotient of two products of brackets."""
    found = dict(one)
    for i in other:
        found[i] = found.get(i, 0) - other[i]
    return found


def factorial_exponents(q, k):
    """The exponents of the brackets in the factorial of k: k // q ** i at i."""
    found = {}
    left = k // q
    while left > 0:
        found[len(found) + 1] = left
        left = left // q
    return found


def exponents_degree(q, exponents):
    """The degree of the product of brackets to these powers."""
    return sum([exponents[i] * whole_power(q, i) for i in exponents])


def without_squares(h):
    """The list of the pairs (d, sign) of the divisors d of h for which h // d is a product of unlike primes."""
    pairs = [(1, 1)]
    left = h
    prime = 2
    while left > 1:
        if left % prime == 0:
            pairs = pairs + [(d * prime, -sign) for d, sign in pairs]
        while left % prime == 0:
            left = left // prime
        prime += 1
    return [(h // d, sign) for d, sign in pairs]


def primes_exponents(h):
    """The exponents of the brackets in the product of all primes of degree h."""
    return dict(without_squares(h))

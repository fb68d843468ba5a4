"""The coefficients of x / exp(x) over products of brackets; nothing is checked.

With E for exp(x) / x, the series 1 / E is its own q-th power times E ** (q - 1). So its coefficient at x ** k is the
sum, over all r up to k for which q divides k - r, of that of E ** (q - 1) at x ** r times the q-th power of its own
coefficient at x ** ((k - r) // q). A fraction is held as a pair of a top and of the exponents of the brackets below.
"""

from math import comb

from monicsums.ground.brackets import less_exponents, times_brackets
from monicsums.ground.integers import whole_power
from monicsums.ground.rows import row_scaled, row_stretched, row_sum
from monicsums.ground.tables import PRIMES


def product_exponents(q, i):
    """The exponents of the brackets in D(i): q ** (i - j) at j."""
    return {j: whole_power(q, i - j) for j in range(1, i + 1)}


def sum_exponents(one, other, times):
    """The exponents of the product of both, the second one taken so many times."""
    found = dict(one)
    for j in other:
        found[j] = found.get(j, 0) + other[j] * times
    return found


def longer_choices(q, i, choices, most):
    """The choices with some more factors x ** (q ** i - 1) / D(i): triples of r, an integer, and exponents.

    A choice tells, too, how many of the q - 1 factors are left; it stands ahead of the triple.
    """
    step = whole_power(q, i) - 1
    below = product_exponents(q, i)
    found = []
    for left, r, many, exponents in choices:
        for times in range(left + 1):
            factor = many * comb(left, times) % PRIMES[q]
            if r + times * step <= most and factor > 0:
                found.append((left - times, r + times * step, factor, sum_exponents(exponents, below, times)))
    return found


def power_terms(q, most):
    """The list of the triples (r, integer, exponents) whose sum is E ** (q - 1), for r up to `most`."""
    choices = [(q - 1, 0, 1, {})]
    i = 1
    while whole_power(q, i) - 1 <= most:
        choices = longer_choices(q, i, choices, most)
        i += 1
    return [(r, many, exponents) for _, r, many, exponents in choices]


def added_fractions(q, fractions):
    """The sum of fractions, none of which is 0: their tops are brought over the greatest exponents of each bracket."""
    most = {}
    for _, exponents in fractions:
        for j in exponents:
            most[j] = max(most.get(j, 0), exponents[j])
    total = ()
    for top, exponents in fractions:
        total = row_sum(q, total, times_brackets(q, less_exponents(most, exponents), top))
    return total, most


def needed_numbers(q, terms, k):
    """The ascending list of the numbers whose coefficients are needed for that of k, itself the last one."""
    needed = {k: True}
    waiting = [k]
    while len(waiting) > 0:
        number = waiting.pop()
        for r, _, _ in terms:
            lower = (number - r) // q
            if r <= number and (number - r) % q == 0 and lower not in needed:
                needed[lower] = True
                waiting.append(lower)
    return sorted(needed)


def next_fraction(q, terms, found, k):
    """The coefficient of x / exp(x) at x ** k, by those that were found for lower numbers."""
    fractions = []
    for r, many, exponents in terms:
        lower = (k - r) // q
        if r <= k and (k - r) % q == 0 and len(found[lower][0]) > 0:
            top, below = found[lower]
            raised = row_scaled(q, many, row_stretched(top, q))
            fractions.append((raised, sum_exponents(exponents, below, q)))
    return added_fractions(q, fractions)


def inverse_coefficient(q, k):
    """The coefficient of x / exp(x) at x ** k: a top and the exponents of the brackets below."""
    terms = power_terms(q, k)
    found = {0: ((1,), {})}
    for number in needed_numbers(q, terms, k):
        if number > 0:
            found[number] = next_fraction(q, terms, found, number)
    return found[k]

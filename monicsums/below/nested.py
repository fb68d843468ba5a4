"""Nested sums and low sums as tops over products of powers of L(0), L(1) and so on; nothing is checked.

N(d; r0, r1, ..) is a polynomial divided by L(d) ** r0 L(d - 1) ** r1 .., and the low sum L(d; r0, r1, ..)
one divided by L(d - 1) ** r0 L(d - 2) ** r1 .., as each L(d) is the bracket d times L(d - 1).
"""

from monicsums.below.tops import reciprocal_top, without_shared
from monicsums.ground.brackets import times_brackets
from monicsums.ground.rows import row_power, row_product, row_sum
from monicsums.sums.plain import multiple_degree, multiple_of_all


def bottom_powers(d, row):
    """The list of the pairs (i, times): the bottom of N(d; row) divides the product of all L(i) ** times."""
    return [(d - at, member) for at, member in enumerate(row) if d > at]


def longer_tops(q, d, row, lower):
    """The list of the tops of L(i; row) for i from 0 to d, by those for the row without its first member."""
    found = [()]
    for i in range(d):
        made = found[-1]
        if len(made) > 0:
            # From L(i; row) on to L(i + 1; row) each power of some L(j) becomes one of L(j + 1).
            made = times_brackets(q, {j: times for j, times in bottom_powers(i, row)}, made)
        step = ()
        if len(lower[i]) > 0:
            step = row_product(q, reciprocal_top(q, i, row[0]), lower[i])
        found.append(row_sum(q, made, step))
    return found


def low_tops(q, d, row):
    """The list of the tops of L(i; row) for i from 0 to d; those for the empty row are 1."""
    if len(row) == 0:
        return [(1,) for _ in range(d + 1)]
    return longer_tops(q, d, row, low_tops(q, d, row[1:]))


def nested_top(q, d, row):
    """The top of N(d; row)."""
    lower = low_tops(q, d, row[1:])[d]
    if len(lower) == 0:
        return ()
    return row_product(q, reciprocal_top(q, d, row[0]), lower)


def powers_degree(q, pairs):
    """The degree of the product of all L(i) ** times over pairs (i, times)."""
    return sum([multiple_degree(q, i) * times for i, times in pairs])


def over_powers(q, top, pairs):
    """The quotient of the top, which is not 0, by the product of all L(i) ** times, in lowest terms."""
    bottom = (1,)
    for i, times in pairs:
        bottom = row_product(q, bottom, row_power(q, multiple_of_all(q, i), times))
    left = top
    for i, times in pairs:
        left, bottom = without_shared(q, left, bottom, multiple_of_all(q, i), times)
    return left, bottom

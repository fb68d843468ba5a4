"""Brackets, the polynomials T ** (q ** i) - T for i from 1 on: products with them and quotients by them.

Nothing is checked.
"""

from monicsums.ground.integers import whole_power
from monicsums.ground.rows import row_less
from monicsums.ground.tables import SUMS


def times_bracket(q, i, a):
    """a times the bracket i."""
    if len(a) == 0:
        return ()
    return row_less(q, (0,) * whole_power(q, i) + a, (0,) + a)


def bracket_quotient(q, i, a):
    """a divided by the bracket i, which divides it."""
    sums = SUMS[q]
    gap = whole_power(q, i) - 1
    # A coefficient of a is that of the quotient q ** i places below, less that of the quotient one place below.
    # So each coefficient of the quotient, from the highest one on, is told by one that is `gap` places above.
    found = [0 for _ in range(gap)]
    for at in range(len(a) - 1, gap, -1):
        found.append(sums[a[at]][found[-gap]])
    return tuple(found[:gap - 1:-1])

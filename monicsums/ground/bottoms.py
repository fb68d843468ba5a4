"""Quotients over one bottom; nothing is checked but how long they get."""

from monicsums.ground.polys import check_made
from monicsums.ground.quotients import lowest
from monicsums.ground.rows import row_common_divisor, row_divided, row_product


def common_multiple(q, one, other):
    """The monic common multiple of the least degree of two monic polynomials."""
    rest = row_divided(q, one, other)[1]
    if len(rest) == 0:
        return one
    return row_product(q, one, row_divided(q, other, row_common_divisor(q, other, rest))[0])


def shared_bottom(q, quotients):
    """The least common multiple of the bottoms of these quotients."""
    made = (1,)
    for _, bottom in quotients:
        made = common_multiple(q, made, bottom)
    return made


def tops_over(q, quotients, bottom):
    """The list of the tops of these quotients over a bottom that all of their bottoms divide."""
    found = []
    for top, below in quotients:
        factor = (1,)
        if len(top) > 0 and below != bottom:
            factor = row_divided(q, bottom, below)[0]
        found.append(row_product(q, top, factor))
    return found


def told_quotient(q, top, bottom):
    """The quotient of the top by the bottom, which is not 0: TooMany if it is too long in lowest terms."""
    # The difference of both degrees stays the same in lowest terms.
    check_made(len(top) - len(bottom))
    made = lowest(q, top, bottom)
    check_made(max(len(made[0]), len(made[1])) - 1)
    return made

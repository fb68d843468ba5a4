"""Polynomials as vectors over the field: independent ones, and the products over all of their sums.

Nothing is checked here. A basis is a list of polynomials with unlike degrees, ascending, none of which is 0.
"""

from monicsums.ground.factoring import cleared
from monicsums.ground.integers import whole_power
from monicsums.ground.rows import row_less, row_opposite, row_power, row_product
from monicsums.tables.parts import parts_less, raised


def told_pivots(q, row):
    """The dict from lengths to independent sums of the row with marks, and the list of marks that make 0.

    A mark is the polynomial whose coefficients are those of the sum. The pivots are in the order of the row, and
    each one is a member of the row less a sum of the members ahead of it.
    """
    pivots = {}
    marks = []
    for at, a in enumerate(row):
        left, mark = cleared(q, pivots, a, (0,) * at + (1,))
        if len(left) > 0:
            pivots[len(left)] = (left, mark)
        else:
            marks.append(mark)
    return pivots, marks


def row_basis(q, row):
    """The basis of all sums of c_i w_i with elements c_i over a row."""
    pivots = told_pivots(q, row)[0]
    return [pivots[length][0] for length in sorted(pivots)]


def is_in_span(q, row, a):
    """Whether a is a sum of c_i w_i over a row."""
    return len(cleared(q, told_pivots(q, row)[0], a, ())[0]) == 0


def turns(lengths):
    """How many pairs of these numbers do not ascend."""
    return sum([1 for at, one in enumerate(lengths) for other in lengths[at + 1:] if one > other])


def sums_degree(q, basis):
    """The sum of the degrees of all sums of the basis whose last coefficient that is not 0 is 1."""
    return sum([(len(a) - 1) * whole_power(q, i) for i, a in enumerate(basis)])


def span_values(q, basis):
    """The list of the values at each member of a basis of the map of the span of the ones ahead of it."""
    found = []
    left = basis
    # The map of a longer span is the q-th power of that before less the power q - 1 of its value, times itself.
    while len(left) > 0:
        value = left[0]
        factor = row_power(q, value, q - 1)
        found.append(value)
        left = [row_less(q, raised(q, a, 1), row_product(q, factor, a)) for a in left[1:]]
    return found


def moore_product(q, row):
    """The Moore determinant of a row of independent polynomials."""
    pivots = told_pivots(q, row)[0]
    made = (1,)
    for value in span_values(q, row_basis(q, row)):
        made = row_product(q, made, value)
    # Sums of the members ahead leave the determinant as it is, and each turn of two members changes its sign.
    if turns(list(pivots)) % 2 == 1:
        return row_opposite(q, made)
    return made


def span_parts(q, basis):
    """The parts of the map that is the product of x - w over all sums w of a basis."""
    parts = ((1,),)
    for value in span_values(q, basis):
        factor = row_power(q, value, q - 1)
        longer = ((),) + tuple([raised(q, part, 1) for part in parts])
        parts = parts_less(q, longer, tuple([row_product(q, factor, part) for part in parts]))
    return parts

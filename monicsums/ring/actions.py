"""How polynomials act by C on polynomials and on rests modulo a prime; nothing is checked."""

from monicsums.ground.brackets import over_bracket
from monicsums.ground.factoring import cleared
from monicsums.ground.integers import whole_power
from monicsums.ground.rows import row_divided, row_less, row_opposite, row_scaled, row_stretched, row_sum


def coefficient_degree(q, a, i):
    """The degree of the coefficient of C_a with the index i, which is at most the degree of a."""
    return (len(a) - 1 - i) * whole_power(q, i)


def coefficient_list(q, a, many):
    """The list of the first `many` coefficients of C_a, at most as many as a has."""
    found = [a]
    # c_i times the bracket i is c_{i-1} ** q less c_{i-1}.
    for i in range(1, many):
        found.append(over_bracket(q, i, 1, row_less(q, row_stretched(found[-1], q), found[-1])))
    return found[:many]


def acted(q, u):
    """T u + u ** q, the value of C_T at u."""
    if len(u) == 0:
        return ()
    return row_sum(q, (0,) + u, row_stretched(u, q))


def rest_acted(q, prime, u):
    """The rest of the value of C_T at u modulo the prime."""
    return row_divided(q, acted(q, u), prime)[1]


def less_one(q, prime):
    """The prime less 1, which takes all rests modulo the prime to 0."""
    return row_less(q, prime, (1,))


def rest_value(q, a, u, prime):
    """The rest of C_a(u) modulo the prime."""
    total = ()
    made = row_divided(q, u, prime)[1]
    for element in row_divided(q, a, less_one(q, prime))[1]:
        total = row_sum(q, total, row_scaled(q, element, made))
        made = rest_acted(q, prime, made)
    return total


def round_of(q, prime, u):
    """The pivots of all rests that C makes of u modulo the prime, and the order of u.

    The pivots are a dict from lengths to rests and the polynomials a for which they are C_a(u).
    """
    pivots = {}
    made = row_divided(q, u, prime)[1]
    mark = (1,)
    left, order = cleared(q, pivots, made, mark)
    while len(left) > 0:
        pivots[len(left)] = (left, order)
        made = rest_acted(q, prime, made)
        mark = (0,) + mark
        # Less rests that were made before, the powers of T ascend: the first one that makes 0 is the order.
        left, order = cleared(q, pivots, made, mark)
    return pivots, order


def rest_order(q, prime, u):
    """The order of u modulo the prime."""
    return round_of(q, prime, u)[1]


def rest_log(q, prime, start, u):
    """The polynomial a with the least degree for which C_a(start) is u modulo the prime, None if there is none."""
    pivots = round_of(q, prime, start)[0]
    left, mark = cleared(q, pivots, row_divided(q, u, prime)[1], ())
    if len(left) > 0:
        return None
    return row_opposite(q, mark)

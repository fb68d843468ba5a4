"""Rests modulo a prime by their orders under C; nothing is checked."""

from monicsums.digits.rows import digit_row
from monicsums.ground.rows import row_common_divisor, row_divided, row_scaled, row_sum
from monicsums.ring.actions import less_one, rest_acted, rest_order, rest_value


def is_full_order(q, prime, u):
    """Whether the order of u is the prime less 1."""
    return len(rest_order(q, prime, u)) == len(prime)


def first_maker(q, prime):
    """A rest whose order is the prime less 1."""
    number = 1
    while not is_full_order(q, prime, tuple(digit_row(q, number))):
        number += 1
    return tuple(digit_row(q, number))


def made_pairs(q, prime, start, many):
    """The list of the pairs of each polynomial a with at most so many coefficients and of C_a(start)."""
    pairs = [((), ())]
    made = start
    for at in range(many):
        steps = [row_scaled(q, element, made) for element in range(1, q)]
        longer = [(row_sum(q, a, (0,) * at + (element,)), row_sum(q, value, steps[element - 1]))
                  for element in range(1, q) for a, value in pairs]
        pairs = pairs + longer
        made = rest_acted(q, prime, made)
    return pairs


def rests_of_order(q, prime, m):
    """The list of the rests whose order is m."""
    quotient, rest = row_divided(q, less_one(q, prime), m)
    if len(rest) > 0:
        return []
    # All rests with this order are made of one of them, by the polynomials that have no common divisor with m.
    start = rest_value(q, quotient, first_maker(q, prime), prime)
    pairs = made_pairs(q, prime, start, len(m) - 1)
    return [value for a, value in pairs if row_common_divisor(q, a, m) == (1,)]

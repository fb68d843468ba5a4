"""The ring C of additive polynomials."""

from monicsums.errors import TooMany
from monicsums.ground.integers import check_from
from monicsums.ground.polys import MAX_MADE, check_made, check_pair, check_polynomial, check_prime
from monicsums.ground.rows import row_scaled, row_sum
from monicsums.ring.actions import acted, coefficient_degree, coefficient_list, rest_value
from monicsums.tables.additive import MAX_PARTS, made_additive


def carlitz(q, a):
    """C_a, an additive polynomial."""
    check_polynomial(q, a)
    if len(a) > MAX_PARTS:
        raise TooMany(MAX_MADE)
    for i in range(len(a)):
        check_made(coefficient_degree(q, a, i))
    return made_additive(q, tuple(coefficient_list(q, a, len(a))))


def carlitz_coefficient(q, a, i):
    """The coefficient of C_a at x ** (q ** i)."""
    check_polynomial(q, a)
    check_from(i, 0)
    if i >= len(a):
        return ()
    check_made(coefficient_degree(q, a, i))
    if i == len(a) - 1:
        return a[-1:]
    # Those ahead of it have no greater degrees.
    return coefficient_list(q, a, i + 1)[i]


def carlitz_value(q, a, u):
    """The polynomial C_a(u)."""
    check_pair(q, a, u)
    total = ()
    made = u
    for at, element in enumerate(a):
        if at > 0:
            made = acted(q, made)
            check_made(len(made) - 1)
        total = row_sum(q, total, row_scaled(q, element, made))
    return total


def carlitz_rest(q, a, u, prime):
    """The rest of C_a(u) modulo a prime."""
    check_pair(q, a, u)
    check_prime(q, prime)
    return rest_value(q, a, u, prime)

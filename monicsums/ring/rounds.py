"""Rests modulo a prime under C: orders, makers and logarithms."""

from monicsums.errors import TooMany
from monicsums.ground.factoring import prime_times
from monicsums.ground.integers import whole_power
from monicsums.ground.polys import check_monic, check_pair, check_polynomial, check_prime, units_count
from monicsums.ground.rows import is_row_over, row_common_divisor, row_divided
from monicsums.ring.actions import less_one, rest_log, rest_order
from monicsums.ring.orders import first_maker, is_full_order

# How many rests modulo the prime there may be.
MOST_RESTS = 10000


def check_rests(q, prime):
    """Raise TooMany if there are too many rests modulo the prime."""
    if whole_power(q, len(prime) - 1) > MOST_RESTS:
        raise TooMany(MOST_RESTS)


def module_order(q, prime, u):
    """The monic polynomial m of the least degree for which C_m(u) is 0 modulo the prime."""
    check_prime(q, prime)
    check_polynomial(q, u)
    check_rests(q, prime)
    return rest_order(q, prime, u)


def is_maker(q, prime, value):
    """Whether the value is a rest modulo the prime whose order is the prime less 1."""
    check_prime(q, prime)
    check_rests(q, prime)
    return is_row_over(q, value, len(prime) - 2) and is_full_order(q, prime, value)


def maker(q, prime):
    """A rest whose order is the prime less 1."""
    check_prime(q, prime)
    check_rests(q, prime)
    return first_maker(q, prime)


def orders_count(q, prime, m):
    """How many rests have the order m."""
    check_prime(q, prime)
    check_monic(q, m)
    check_rests(q, prime)
    if len(row_divided(q, less_one(q, prime), m)[1]) > 0:
        return 0
    return units_count(q, m)


def makers_count(q, prime):
    """How many makers there are."""
    check_prime(q, prime)
    check_rests(q, prime)
    return units_count(q, less_one(q, prime))


def killed_by(q, prime, a):
    """How many rests C_a takes to 0."""
    check_prime(q, prime)
    check_polynomial(q, a)
    check_rests(q, prime)
    return whole_power(q, len(row_common_divisor(q, a, less_one(q, prime))) - 1)


def module_log(q, prime, start, u):
    """The polynomial a, below the degree of the order of start, for which C_a(start) is u; None if there is none."""
    check_prime(q, prime)
    check_pair(q, start, u)
    check_rests(q, prime)
    return rest_log(q, prime, start, u)


def not_made(q, prime, start):
    """A prime r that divides the prime less 1 by n, where C_n(start) is 0; None if start counts as a maker."""
    check_prime(q, prime)
    check_polynomial(q, start)
    check_rests(q, prime)
    left = row_divided(q, less_one(q, prime), rest_order(q, prime, start))[0]
    return min(sorted(prime_times(q, left)), default=None)

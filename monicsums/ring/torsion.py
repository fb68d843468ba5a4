"""Torsion polynomials: the factors F_m of the polynomials C_m(x)."""

from monicsums.errors import Refused, TooMany
from monicsums.ground.factoring import prime_times
from monicsums.ground.integers import whole_power
from monicsums.ground.polys import check_divisor, check_made, check_monic, check_polynomial, check_prime
from monicsums.ground.rows import row_divided, row_less, row_monic, row_product
from monicsums.ring.factors import factor_list, factor_value, is_turned_round, value_degree
from monicsums.ring.orders import rests_of_order

MOST_NORM = 128
MOST_ROOTS = 300
MOST_FACTORED = 60


def check_norm(q, m):
    """Raise TooMany if |m| is too great."""
    if whole_power(q, len(m) - 1) > MOST_NORM:
        raise TooMany(MOST_NORM)


def monic_divisors(q, m):
    """The ascending tuple of all monic polynomials that divide m."""
    check_monic(q, m)
    check_norm(q, m)
    times = prime_times(q, m)
    found = [(1,)]
    for prime in times:
        powers = [(1,)]
        for _ in range(times[prime]):
            powers.append(row_product(q, powers[-1], prime))
        found = [row_product(q, a, part) for a in found for part in powers]
    return tuple(sorted(found))


def torsion(q, m):
    """The coefficients of F_m, from that of 1 on."""
    check_monic(q, m)
    check_norm(q, m)
    return tuple(factor_list(q, m, prime_times(q, m)))


def check_value(q, m, u):
    """Raise an error unless m and u are such polynomials."""
    check_monic(q, m)
    check_polynomial(q, u)
    check_norm(q, m)


def torsion_value(q, m, u):
    """The polynomial F_m(u)."""
    check_value(q, m, u)
    times = prime_times(q, m)
    if not is_turned_round(q, u):
        check_made(value_degree(q, times, u))
    return factor_value(q, m, times, u)


def without(q, a, prime):
    """a divided by the prime as often as can be; a is not 0."""
    left = a
    quotient, rest = row_divided(q, left, prime)
    while len(rest) == 0:
        left = quotient
        quotient, rest = row_divided(q, left, prime)
    return left


def torsion_roots(q, m, prime):
    """The ascending tuple of the rests u modulo the prime for which it divides F_m(u)."""
    check_monic(q, m)
    check_prime(q, prime)
    check_norm(q, m)
    if whole_power(q, len(prime) - 1) > MOST_ROOTS:
        raise TooMany(MOST_ROOTS)
    return tuple(sorted(rests_of_order(q, prime, without(q, m, prime))))


def split_degree(q, m, prime):
    """The least h from 1 on for which m divides the h-th power of the prime, less 1."""
    check_monic(q, m)
    check_prime(q, prime)
    check_norm(q, m)
    if len(row_divided(q, m, prime)[1]) == 0:
        raise Refused(("divides",))
    made = prime
    h = 1
    while len(row_divided(q, row_less(q, made, (1,)), m)[1]) > 0:
        made = row_divided(q, row_product(q, made, prime), m)[1]
        h += 1
    return h


def factored_value(q, m, times, u):
    """F_m(u): an error if it is 0 or too long to be factored."""
    if not is_turned_round(q, u) and value_degree(q, times, u) > MOST_FACTORED:
        raise TooMany(MOST_FACTORED)
    # Where C takes u to few polynomials alone, the value is 0 or no longer than m.
    made = factor_value(q, m, times, u)
    check_divisor(made)
    return made


def order_primes(q, m, u):
    """The ascending tuple of all primes modulo which the order of u is m."""
    check_value(q, m, u)
    times = prime_times(q, m)
    left = factored_value(q, m, times, u)
    for prime in times:
        left = without(q, left, prime)
    return tuple(sorted(prime_times(q, row_monic(q, left))))


def left_over(q, m, u):
    """What is left of F_m(u) if all primes that do not divide m are divided out."""
    check_value(q, m, u)
    times = prime_times(q, m)
    made = factored_value(q, m, times, u)
    left = made
    for prime in times:
        left = without(q, left, prime)
    # That is the quotient by the monic part that the primes of m do not divide.
    return row_divided(q, made, row_monic(q, left))[0]

"""Factorials of integers as polynomials, and their quotients."""

from monicsums.errors import InvalidNumber
from monicsums.ground.brackets import exponents_degree, factorial_exponents, times_brackets
from monicsums.ground.fields import check_field
from monicsums.ground.integers import check_from, is_between, whole_power
from monicsums.ground.polys import check_made, check_prime

MOST_MADE = 2000


def check_factorial(q, k):
    """Raise an error unless k may tell a factorial over the field."""
    check_field(q)
    check_from(k, 0)


def check_choice(q, k, j):
    """Raise an error unless k and j may tell a quotient of factorials."""
    check_factorial(q, k)
    if not is_between(j, 0, k):
        raise InvalidNumber(j)


def factorial(q, k):
    """The factorial of k."""
    check_factorial(q, k)
    exponents = factorial_exponents(q, k)
    check_made(exponents_degree(q, exponents))
    return times_brackets(q, exponents, (1,))


def factorial_degree(q, k):
    """The degree of the factorial of k."""
    check_factorial(q, k)
    return exponents_degree(q, factorial_exponents(q, k))


def factorial_exponent(q, prime, k):
    """How often the prime divides the factorial of k."""
    check_prime(q, prime)
    check_from(k, 0)
    found = factorial_exponents(whole_power(q, len(prime) - 1), k)
    return sum([found[i] for i in found])


def places_of(q, k, j):
    """The list of the places at which a carry comes in if j and k - j are added in base q; nothing is checked."""
    found = []
    one, other, whole = j // q, (k - j) // q, k // q
    at = 1
    while whole > 0:
        if whole > one + other:
            found.append(at)
        one, other, whole = one // q, other // q, whole // q
        at += 1
    return found


def choose(q, k, j):
    """The factorial of k divided by those of j and of k - j."""
    check_choice(q, k, j)
    exponents = {at: 1 for at in places_of(q, k, j)}
    check_made(exponents_degree(q, exponents))
    return times_brackets(q, exponents, (1,))


def choose_places(q, k, j):
    """The places at which a carry comes in if j and k - j are added in base q."""
    check_choice(q, k, j)
    return tuple(places_of(q, k, j))


def choose_degree(q, k, j):
    """The degree of the factorial of k divided by those of j and of k - j."""
    check_choice(q, k, j)
    return sum([whole_power(q, at) for at in places_of(q, k, j)])


def choose_exponent(q, prime, k, j):
    """How often the prime divides the factorial of k divided by those of j and of k - j."""
    check_prime(q, prime)
    check_choice(q, k, j)
    return len([at for at in places_of(q, k, j) if at % (len(prime) - 1) == 0])

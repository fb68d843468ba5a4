"""The exponential and the logarithm of C, and Bernoulli numbers."""

from monicsums.digits.rows import digit_row, digit_total
from monicsums.errors import TooMany
from monicsums.ground.brackets import exponents_degree, factorial_exponents, less_exponents, primes_exponents
from monicsums.ground.brackets import times_brackets
from monicsums.ground.fields import check_field
from monicsums.ground.integers import check_from, is_integer, whole_power
from monicsums.ground.polys import check_made, check_prime
from monicsums.ground.rows import row_divided
from monicsums.ground.tables import OPPOSITES, POWERS, PRIMES
from monicsums.series.exponential import inverse_coefficient, product_exponents, sum_exponents
from monicsums.series.rests import irregular_list

MOST_INDEX = 80
MOST_MADE_DEGREE = 2000
# The bracket i has a degree of at most 2000 over some field only for i up to this.
MOST_BRACKET = 10
# The greatest size of a prime whose range is looked through.
MOST_SIZE = 81


def check_index(q, i):
    """Raise an error unless i may be the index of a coefficient; TooMany if its bottom surely is too long."""
    check_field(q)
    check_from(i, 0)
    # Each bottom has the bracket i as a divisor.
    if i > MOST_BRACKET:
        raise TooMany(MOST_MADE_DEGREE)


def exp_coefficient(q, i):
    """The quotient 1 / D_i."""
    check_index(q, i)
    exponents = product_exponents(q, i)
    check_made(exponents_degree(q, exponents))
    return (1,), times_brackets(q, exponents, (1,))


def log_coefficient(q, i):
    """The quotient (-1) ** i / L_i."""
    check_index(q, i)
    exponents = {j: 1 for j in range(1, i + 1)}
    check_made(exponents_degree(q, exponents))
    top = (1,) if i % 2 == 0 else (OPPOSITES[q][1],)
    return top, times_brackets(q, exponents, (1,))


def check_number(q, k):
    """Raise an error unless k may be the number of a Bernoulli number."""
    check_field(q)
    check_from(k, 0)


def check_told(k):
    """Raise TooMany if the Bernoulli number of k is not told."""
    if k > MOST_INDEX:
        raise TooMany(MOST_INDEX)


def degrees_of(q, k):
    """The ascending list of the bottom degrees of k; nothing is checked."""
    if k == 0 or k % (q - 1) != 0:
        return []
    p = PRIMES[q]
    total = digit_total(p, k)
    share = POWERS[q] * (p - 1)
    found = []
    if q == 2 and k > 2 and digit_total(2, k - 1) == 1:
        found.append(1)
    h = total // share
    if total % share == 0 and k % (whole_power(q, h) - 1) == 0 and h not in found:
        found.append(h)
    return found


def bottom_exponents(q, k):
    """The exponents of the brackets in the product of all primes whose degrees are bottom degrees of k."""
    found = {}
    for h in degrees_of(q, k):
        found = sum_exponents(found, primes_exponents(h), 1)
    return found


def bernoulli_of(q, k):
    """The Bernoulli number of k, its bottom told by the bottom degrees; nothing is checked."""
    if k % (q - 1) != 0:
        return (), (1,)
    top, below = inverse_coefficient(q, k)
    bottom = bottom_exponents(q, k)
    exponents = less_exponents(sum_exponents(factorial_exponents(q, k), bottom, 1), below)
    return times_brackets(q, exponents, top), times_brackets(q, bottom, (1,))


def bernoulli(q, k):
    """The Bernoulli number B(k)."""
    check_number(q, k)
    check_told(k)
    return bernoulli_of(q, k)


def bottom_degrees(q, k):
    """The ascending tuple of the bottom degrees of k."""
    check_number(q, k)
    return tuple(degrees_of(q, k))


def bernoulli_bottom(q, k):
    """The product of all primes whose degrees are bottom degrees of k."""
    check_number(q, k)
    exponents = bottom_exponents(q, k)
    check_made(exponents_degree(q, exponents))
    return times_brackets(q, exponents, (1,))


def whole_part(q, k):
    """B(k) and the bottom element of k over each of the primes of its bottom, added up: a polynomial."""
    check_number(q, k)
    check_told(k)
    if k == 0:
        return ()
    # What is added to B(k) has a size below 0, so the sum is the quotient of the top by the bottom.
    top, bottom = bernoulli_of(q, k)
    return row_divided(q, top, bottom)[0]


def bottom_element(q, k):
    """The bottom element of k, 0 if k has no bottom degree."""
    check_number(q, k)
    degrees = degrees_of(q, k)
    if len(degrees) == 0:
        return 0
    p = PRIMES[q]
    made = 1
    for digit in digit_row(p, k):
        for number in range(1, digit + 1):
            made = made * number % p
    # The inverse of an integer modulo p, other than 0, is its power p - 2.
    inverse = 1
    for _ in range(p - 2):
        inverse = inverse * made % p
    if POWERS[q] == 2 and degrees[0] % 2 == 1:
        return -inverse % p
    return inverse


def check_range(q, prime):
    """Raise an error unless the range of the prime can be looked through."""
    check_prime(q, prime)
    if whole_power(q, len(prime) - 1) > MOST_SIZE:
        raise TooMany(MOST_INDEX)


def irregular(q, prime):
    """The ascending tuple of the numbers of the range of the prime at which it divides the top of B(k)."""
    check_range(q, prime)
    return tuple(irregular_list(q, prime))


def is_irregular(q, prime, value):
    """Whether the value is a number of the range of the prime at which it divides the top of B(k)."""
    check_range(q, prime)
    return is_integer(value) and value in irregular_list(q, prime)

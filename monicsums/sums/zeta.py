"""Sums of powers over all degrees, and their rests modulo powers of a prime."""

from monicsums.errors import TooMany
from monicsums.ground.fields import check_field
from monicsums.ground.integers import check_between, check_from, whole_power
from monicsums.ground.polys import check_prime
from monicsums.ground.rows import is_row_over, row_divided, row_monics, row_power, row_power_rest, row_sum, trimmed
from monicsums.ground.tables import OPPOSITES, PRIMES
from monicsums.sums.recursion import sum_rows

MOST_ROW = 200
# How many rests modulo a power of a prime there may be.
MOST_RESTS = 300


def check_row_number(q, k):
    """Raise an error unless k may tell a row of sums over the field."""
    check_field(q)
    check_between(k, 0, MOST_ROW)


def zeta_row(q, k):
    """S(d, k) for d from 0 on, as long as it is not 0."""
    check_row_number(q, k)
    return tuple(sum_rows(q, k, k))


def zeta_value(q, k):
    """The sum of all S(d, k)."""
    check_row_number(q, k)
    total = ()
    for row in sum_rows(q, k, k):
        total = row_sum(q, total, row)
    return total


def does_vanish(q, k):
    """Whether the sum of all S(d, k) is 0."""
    check_field(q)
    check_from(k, 0)
    return k > 0 and k % (q - 1) == 0


def check_power(q, prime, n):
    """Raise an error unless q, prime and n may tell a power of a prime; it may still be too great."""
    check_prime(q, prime)
    check_between(n, 1, 8)


def check_rests(q, prime, n):
    """Raise TooMany if there are too many rests modulo the n-th power of the prime."""
    if whole_power(q, (len(prime) - 1) * n) > MOST_RESTS:
        raise TooMany(MOST_RESTS)


def period_of(q, prime, n):
    """The period of the prime and n; nothing is checked."""
    p = PRIMES[q]
    made = whole_power(q, len(prime) - 1) - 1
    reach = 1
    while reach < n:
        reach = reach * p
        made = made * p
    return made


def period(q, prime, n):
    """The least m from 1 on for which all m-th powers that the prime does not divide are 1 modulo prime ** n."""
    check_power(q, prime, n)
    check_rests(q, prime, n)
    return period_of(q, prime, n)


def is_one_power(q, prime, n, a, m):
    """Whether the m-th power of a, which the prime does not divide, is 1 modulo prime ** n; nothing is checked."""
    modulus = row_power(q, prime, n)
    return row_power_rest(q, a, m % period_of(q, prime, n), modulus) == (1,)


def first_bar(q, prime, m):
    """The first polynomial below the degree of the prime whose m-th power is not 1 modulo it, None if there is none."""
    for a in [trimmed(row[:-1]) for row in row_monics(q, len(prime) - 1)]:
        if len(a) > 0 and not is_one_power(q, prime, 1, a, m):
            return a
    return None


def period_bar(q, prime, n, m):
    """A polynomial whose m-th power is not 1 modulo prime ** n, None if there is none."""
    check_power(q, prime, n)
    check_from(m, 0)
    check_rests(q, prime, n)
    if m % period_of(q, prime, 1) != 0:
        return first_bar(q, prime, m)
    if m % period_of(q, prime, n) != 0:
        # The order of the prime and 1 together is the greatest power of p that there is.
        return row_sum(q, prime, (1,))
    return None


def is_period_bar(q, prime, n, m, value):
    """Whether the value is a polynomial whose m-th power is not 1 modulo prime ** n."""
    check_power(q, prime, n)
    check_from(m, 0)
    check_rests(q, prime, n)
    if not is_row_over(q, value, (len(prime) - 1) * n - 1):
        return False
    if len(row_divided(q, value, prime)[1]) == 0:
        return False
    return not is_one_power(q, prime, n, value, m)


def zeta_rests(q, prime, n, k):
    """The rests modulo prime ** n of the sums of k-th powers that the prime does not divide, degree by degree."""
    check_power(q, prime, n)
    check_from(k, 0)
    check_rests(q, prime, n)
    most = (len(prime) - 1) * n
    modulus = row_power(q, prime, n)
    turn = period_of(q, prime, n)
    # The rests hang on k modulo the period alone, and from n on the powers that the prime divides leave no rest.
    least = n + (k - n) % turn
    rests = [row_divided(q, row, modulus)[1] for row in sum_rows(q, least, most)]
    return tuple(rests + [() for _ in range(most + 1 - len(rests))])


def power_sum_rest(q, prime, k):
    """The rest modulo the prime of the sum of the k-th powers of all polynomials of a lower degree."""
    check_prime(q, prime)
    check_from(k, 0)
    size = whole_power(q, len(prime) - 1)
    if k > 0 and k % (size - 1) == 0:
        return (OPPOSITES[q][1],)
    return ()

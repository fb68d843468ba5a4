"""Partings of k, and the sums of powers that they tell."""

from monicsums.digits.digits import lots_rest
from monicsums.digits.rows import are_carry_free, parts_bound, shift_sum_list
from monicsums.errors import InvalidParting, TooMany
from monicsums.ground.integers import is_between
from monicsums.ground.tables import POWERS, PRIMES
from monicsums.sums.greatest import greatest_members, members_exponent
from monicsums.sums.plain import check_sum
from monicsums.sums.search import listed_partings

MAX_LISTED = 2000
# From 13 members ahead of the last one on, their orders alone make more than 2000 partings: there are no
# carries, so at most p - 1 members have a digit at one place, at most six are equal, and 13 members, six
# and six of them equal, have 12012 orders.
MOST_AHEAD = 12


def parting(q, d, k):
    """A parting of k for d, None if there is none."""
    check_sum(q, d, k)
    return found_parting(q, d, k)


def found_parting(q, d, k):
    """The greatest parting of k for d, None if there is none; nothing is checked."""
    if d > parts_bound(q, k):
        return None
    return greatest_members(q, d, k)


def is_parting(q, d, k, value):
    """Whether the value is a parting of k for d."""
    check_sum(q, d, k)
    if not isinstance(value, tuple) or len(value) != d + 1:
        return False
    if not all([is_between(member, 0, k) for member in value]):
        return False
    if not all([member > 0 and member % (q - 1) == 0 for member in value[:d]]):
        return False
    return sum(value) == k and are_carry_free(PRIMES[q], value)


def check_parting(q, d, k, value):
    """Raise InvalidParting unless the value is a parting of k for d."""
    if not is_parting(q, d, k, value):
        raise InvalidParting("not a parting")


def is_bar(q, d, k, j):
    """Whether the shift sum of k with the index j is too small for a parting."""
    return shift_sum_list(q, k)[j] < (q - 1) * d


def digit_bar(q, d, k):
    """A bar of k for d, None if there is none."""
    check_sum(q, d, k)
    bars = [j for j in range(POWERS[q]) if is_bar(q, d, k, j)]
    return min(bars, default=None)


def is_digit_bar(q, d, k, value):
    """Whether the value is a bar of k for d."""
    check_sum(q, d, k)
    return is_between(value, 0, POWERS[q] - 1) and is_bar(q, d, k, value)


def is_zero_sum(q, d, k):
    """Whether S(d, k) is 0."""
    check_sum(q, d, k)
    return d > parts_bound(q, k)


def greatest_parting(q, d, k):
    """The greatest parting of k for d, None if there is none."""
    check_sum(q, d, k)
    return found_parting(q, d, k)


def found_partings(q, d, k):
    """The ascending list of all partings of k for d: TooMany if there are too many."""
    if d > parts_bound(q, k):
        return []
    if d > MOST_AHEAD:
        raise TooMany(MAX_LISTED)
    return listed_partings(q, d, k, MAX_LISTED)


def all_partings(q, d, k):
    """The ascending tuple of all partings of k for d."""
    check_sum(q, d, k)
    return tuple(found_partings(q, d, k))


def signed(q, d, number):
    """The element that is the number, its opposite for odd d."""
    return (number if d % 2 == 0 else -number) % PRIMES[q]


def sum_by_partings(q, d, k):
    """The dict from the exponents of T in S(d, k) to their coefficients other than 0."""
    check_sum(q, d, k)
    totals = {}
    for members in found_partings(q, d, k):
        exponent = members_exponent(members)
        totals[exponent] = totals.get(exponent, 0) + lots_rest(PRIMES[q], members)
    told = {exponent: signed(q, d, totals[exponent]) for exponent in sorted(totals)}
    return {exponent: told[exponent] for exponent in told if told[exponent] != 0}


def parting_exponent(q, d, k, value):
    """The exponent of a parting of k for d."""
    check_parting(q, d, k, value)
    return members_exponent(value)


def parting_number(q, d, k, value):
    """The number of a parting of k for d."""
    check_parting(q, d, k, value)
    return lots_rest(PRIMES[q], value)

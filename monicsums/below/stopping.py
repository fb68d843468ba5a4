"""Series of powers of C_a that stop where they are put into the exponential."""

from monicsums.below.inner import inner_tops, part_terms
from monicsums.errors import TooMany
from monicsums.ground.fields import check_field
from monicsums.ground.integers import check_between, check_from, whole_power
from monicsums.ground.quotients import lowest
from monicsums.sums.plain import multiple_of_all

MOST_TIMES = 9
MOST_SPAN = 16
# There are more than 16 monic polynomials of each greater degree, over each field.
MOST_DEGREE = 4


def check_times(q, m):
    """Raise an error unless m may be an exponent over the field."""
    check_field(q)
    check_between(m, 1, MOST_TIMES)


def check_span(q, n):
    """Raise TooMany if q ** n is too great."""
    if n > MOST_DEGREE or whole_power(q, n) > MOST_SPAN:
        raise TooMany(MOST_SPAN)


def inner_sum(q, m, j):
    """The coefficients of the sum of C_a(x) ** m / a over all monic a of degree j."""
    check_times(q, m)
    check_from(j, 0)
    check_span(q, j)
    tops = inner_tops(q, m, j)
    bottom = multiple_of_all(q, j)
    return tuple([lowest(q, tops.get(at, ()), bottom) for at in range(m * whole_power(q, j) + 1)])


def told_part(q, m, n):
    """The tuple of the coefficients of the part n for m; nothing is checked."""
    terms = part_terms(q, m, n)
    return tuple([terms.get(at, ()) for at in range(max(list(terms), default=-1) + 1)])


def stopping_part(q, m, n):
    """The coefficients of the part n for m."""
    check_times(q, m)
    check_from(n, 0)
    check_span(q, n)
    return told_part(q, m, n)


def end_of(q, m):
    """The number of the last part that may be other than 0; nothing is checked."""
    return (m - 1) // (q - 1)


def stopping_end(q, m):
    """The number of the last part that may be other than 0."""
    check_times(q, m)
    return end_of(q, m)


def stopping_row(q, m):
    """The parts from 0 to the end."""
    check_times(q, m)
    check_span(q, end_of(q, m))
    return tuple([told_part(q, m, n) for n in range(end_of(q, m) + 1)])

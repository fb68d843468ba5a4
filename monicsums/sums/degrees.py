"""The degrees of sums of powers, and their last coefficients, told by digits."""

from monicsums.digits.rows import parts_bound
from monicsums.errors import TooMany
from monicsums.ground.fields import check_field
from monicsums.ground.integers import check_from, is_integer
from monicsums.ground.tables import INVERSES, OPPOSITES, PRODUCTS
from monicsums.sums.greatest import members_exponent
from monicsums.sums.pairs import told_pair, told_pairs
from monicsums.sums.partings import check_parting, signed
from monicsums.sums.plain import check_sum

# How many digits an integer that is told in a row may have.
MOST_DIGITS = 60


def check_row(q, k):
    """Raise an error unless q and k may tell a row over all degrees."""
    check_field(q)
    check_from(k, 0)


def degree_of(q, d, k):
    """The degree of S(d, k), -1 for 0; nothing is checked."""
    if d > parts_bound(q, k):
        return -1
    return told_pair(q, d, k)[0]


def lead_of(q, d, k):
    """The element at the greatest exponent of S(d, k), 0 for the polynomial 0; nothing is checked."""
    if d > parts_bound(q, k):
        return 0
    return signed(q, d, told_pair(q, d, k)[1])


def sum_degree(q, d, k):
    """The degree of S(d, k), -1 for 0."""
    check_sum(q, d, k)
    return degree_of(q, d, k)


def leading(q, d, k):
    """The element at the greatest exponent of S(d, k), 0 for the polynomial 0."""
    check_sum(q, d, k)
    return lead_of(q, d, k)


def degree_list(q, k):
    """The list of the degrees of S(d, k) that are not 0; nothing is checked."""
    return [degree for degree, _ in told_pairs(q, k, parts_bound(q, k))]


def lead_list(q, k):
    """The list of the elements at the greatest exponents; nothing is checked."""
    return [signed(q, d, number) for d, (_, number) in enumerate(told_pairs(q, k, parts_bound(q, k)))]


def told_row(numbers):
    """The tuple of these integers: TooMany if one of them is too long."""
    if not all([is_integer(number) for number in numbers]):
        raise TooMany(MOST_DIGITS)
    return tuple(numbers)


def degree_row(q, k):
    """The degrees of S(d, k) for d from 0 on, as long as it is not 0."""
    check_row(q, k)
    return told_row(degree_list(q, k))


def leading_row(q, k):
    """The elements at the greatest exponents of S(d, k) for d from 0 on, as long as it is not 0."""
    check_row(q, k)
    return tuple(lead_list(q, k))


def step_row(q, k):
    """The differences of neighbours in the row of degrees."""
    check_row(q, k)
    degrees = degree_list(q, k)
    return told_row([degrees[d + 1] - degrees[d] for d in range(len(degrees) - 1)])


def zero_leads(q, k):
    """The elements ahead of the greatest powers of T in the zeros X of the sum of all S(d, k) X ** d."""
    check_row(q, k)
    leads = lead_list(q, k)
    products = PRODUCTS[q]
    return tuple([
        products[OPPOSITES[q][leads[d]]][INVERSES[q][leads[d + 1]]] for d in range(len(leads) - 1)
    ])


def is_degree(q, d, k, parts):
    """Whether the degree of S(d, k) is the exponent of a parting of k for d."""
    check_parting(q, d, k, parts)
    return members_exponent(parts) == degree_of(q, d, k)

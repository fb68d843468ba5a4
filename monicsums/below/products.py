"""Nested sums of reciprocals, and products of them as sums of them."""

from monicsums.below.nested import bottom_powers, low_tops, nested_top, over_powers, powers_degree
from monicsums.below.rules import low_product, nested_product, term_pairs
from monicsums.errors import InvalidRow, TooMany
from monicsums.ground.fields import check_field
from monicsums.ground.integers import check_between, is_between, whole_power
from monicsums.ground.polys import check_made
from monicsums.sums.plain import MAX_SUMMED

MOST_WEIGHT = 12
MOST_MEMBERS = 3
# The greatest degree of the monic polynomials in a sum.
MOST_DEGREE = 6


def is_row(value):
    """Whether the value is a tuple of one to three integers from 1 to 12."""
    if not isinstance(value, tuple) or not 1 <= len(value) <= MOST_MEMBERS:
        return False
    return all([is_between(member, 1, MOST_WEIGHT) for member in value])


def check_row(row):
    """Raise InvalidRow unless the value is a row."""
    if not is_row(row):
        raise InvalidRow("not a row of one to three integers from 1 to 12")


def check_nested(q, d, row):
    """Raise an error unless q, d and the row may tell a nested sum."""
    check_field(q)
    check_between(d, 0, MOST_DEGREE)
    check_row(row)
    if whole_power(q, d) > MAX_SUMMED:
        raise TooMany(MAX_SUMMED)


def told_sum(q, top, pairs):
    """The quotient of the top by the product of all L(i) ** times over the pairs: TooMany if it is too long."""
    if len(top) == 0:
        return (), (1,)
    # The difference of both degrees stays the same in lowest terms, and tells most sums that are too long.
    check_made(powers_degree(q, pairs) - (len(top) - 1))
    made = over_powers(q, top, pairs)
    check_made(max(len(made[0]), len(made[1])) - 1)
    return made


def nested_sum(q, d, row):
    """N(d; row)."""
    check_nested(q, d, row)
    return told_sum(q, nested_top(q, d, row), bottom_powers(d, row))


def low_nested(q, d, row):
    """L(d; row)."""
    check_nested(q, d, row)
    return told_sum(q, low_tops(q, d, row)[d], bottom_powers(d - 1, row))


def product_terms(q, i, j):
    """The ascending tuple of the pairs (t, c(t)), c(t) not 0, in the product of S(d, -i) and S(d, -j)."""
    check_field(q)
    check_between(i, 1, MOST_WEIGHT)
    check_between(j, 1, MOST_WEIGHT)
    return tuple(term_pairs(q, i, j))


def check_factors(q, one, other):
    """Raise an error unless both are rows over the field whose members add up to at most 12."""
    check_field(q)
    check_row(one)
    check_row(other)
    if sum(one) + sum(other) > MOST_WEIGHT:
        raise InvalidRow("the members of both rows add up to more than 12")


def product_row(q, one, other):
    """The dict from rows to elements that is the product of two nested sums."""
    check_factors(q, one, other)
    return nested_product(q, {}, one, other)


def low_product_row(q, one, other):
    """The dict from rows to elements that is the product of two low sums."""
    check_factors(q, one, other)
    return low_product(q, {}, one, other)

"""Quotients of polynomials, in lowest terms."""

from monicsums.errors import InvalidQuotient, Refused
from monicsums.ground.fields import check_field
from monicsums.ground.polys import MAX_DEGREE, check_divisor, check_pair
from monicsums.ground.rows import is_row_over, row_common_divisor, row_divided, row_monic, row_opposite
from monicsums.ground.rows import row_product, row_scaled, row_sum
from monicsums.ground.tables import INVERSES


def is_quotient(q, value):
    """Whether the value is a quotient with degrees of at most 400."""
    check_field(q)
    if not isinstance(value, tuple) or len(value) != 2:
        return False
    if not all([is_row_over(q, part, MAX_DEGREE) for part in value]):
        return False
    top, bottom = value
    return bottom[-1:] == (1,) and row_common_divisor(q, top, bottom) == (1,)


def check_quotient(q, one):
    """Raise InvalidQuotient unless the value is a quotient."""
    if not is_quotient(q, one):
        raise InvalidQuotient("not a quotient over the field")


def check_top(one):
    """Raise Refused for the quotient 0."""
    if len(one[0]) == 0:
        raise Refused(("zero",))


def lowest(q, a, b):
    """The quotient of a by b, which is not 0; nothing is checked."""
    shared = row_common_divisor(q, a, b)
    top = row_divided(q, a, shared)[0]
    bottom = row_divided(q, b, shared)[0]
    return row_scaled(q, INVERSES[q][bottom[-1]], top), row_monic(q, bottom)


def quotient_of(q, a, b):
    """The quotient of a by b."""
    check_pair(q, a, b)
    check_divisor(b)
    return lowest(q, a, b)


def is_whole_quotient(q, one):
    """Whether the quotient is whole."""
    check_quotient(q, one)
    return one[1] == (1,)


def check_quotients(q, one, other):
    """Raise an error unless both values are quotients."""
    check_quotient(q, one)
    check_quotient(q, other)


def sum_of_quotients(q, one, other):
    """The sum of two quotients; nothing is checked."""
    top = row_sum(q, row_product(q, one[0], other[1]), row_product(q, other[0], one[1]))
    return lowest(q, top, row_product(q, one[1], other[1]))


def quotient_sum(q, one, other):
    """The sum."""
    check_quotients(q, one, other)
    return sum_of_quotients(q, one, other)


def quotient_less(q, one, other):
    """The difference."""
    check_quotients(q, one, other)
    return sum_of_quotients(q, one, (row_opposite(q, other[0]), other[1]))


def quotient_product(q, one, other):
    """The product."""
    check_quotients(q, one, other)
    return lowest(q, row_product(q, one[0], other[0]), row_product(q, one[1], other[1]))


def quotient_inverse(q, one):
    """The quotient whose product with this one is 1."""
    check_quotient(q, one)
    check_top(one)
    return lowest(q, one[1], one[0])


def size_of(q, one):
    """The degree of the top less that of the bottom."""
    check_quotient(q, one)
    check_top(one)
    return len(one[0]) - len(one[1])

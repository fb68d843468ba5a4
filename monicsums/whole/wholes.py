"""Polynomials in x with quotients as coefficients, and which of them take whole values everywhere."""

from monicsums.digits.rows import digit_row
from monicsums.errors import InvalidPolynomial, InvalidRow
from monicsums.ground.bottoms import common_multiple, shared_bottom, told_quotient, tops_over
from monicsums.ground.brackets import factorial_exponents, less_exponents, times_brackets
from monicsums.ground.fields import check_field
from monicsums.ground.integers import check_between, whole_power
from monicsums.ground.polys import check_polynomial
from monicsums.ground.quotients import is_quotient, lowest
from monicsums.ground.rows import is_row_over, row_divided, row_less, row_product, row_scaled, row_sum
from monicsums.ring.actions import coefficient_list
from monicsums.tables.parts import cut_parts
from monicsums.whole.bases import base_list, least_above, list_factors, list_of_factors, told_maps

MAX_ROW = 31
MAX_IMAGES = 6


def are_quotients(q, value, least, most):
    """Whether the value is a tuple of so many quotients."""
    if not isinstance(value, tuple) or not least <= len(value) <= most:
        return False
    return all([is_quotient(q, part) for part in value])


def is_row(q, value):
    """Whether the value is a row: a tuple of at most 31 quotients, the last one not 0."""
    check_field(q)
    if not are_quotients(q, value, 0, MAX_ROW):
        return False
    return len(value) == 0 or len(value[-1][0]) > 0


def check_row(q, row):
    """Raise InvalidRow unless the value is a row."""
    if not is_row(q, row):
        raise InvalidRow("not a row of quotients over the field")


def row_value(q, row, a):
    """The value of a row at a polynomial."""
    check_row(q, row)
    check_polynomial(q, a)
    # At 0 the coefficient at 1 alone counts.
    used = row if len(a) > 0 else row[:1]
    bottom = shared_bottom(q, used)
    total = ()
    for top in tops_over(q, used, bottom)[::-1]:
        total = row_sum(q, row_product(q, total, a), top)
    return told_quotient(q, total, bottom)


def check_base(q, k):
    """Raise an error unless k may tell a base row."""
    check_field(q)
    check_between(k, 0, MAX_ROW - 1)


def base_row(q, k):
    """The base row of k: the product of e_i(x) to the digits k_i of k in base q."""
    check_base(q, k)
    return tuple([(a, (1,)) for a in base_list(q, k)])


def whole_base(q, k):
    """The base row of k divided by the factorial of k."""
    check_base(q, k)
    bottom = times_brackets(q, factorial_exponents(q, k), (1,))
    return tuple([lowest(q, a, bottom) for a in base_list(q, k)])


def times_exponents(q, exponents, a):
    """a, which may be 0, times the brackets to these powers from 0 on."""
    if len(a) == 0:
        return ()
    return times_brackets(q, exponents, a)


def coordinates(q, row):
    """The quotients by which the whole base rows are multiplied in a row."""
    check_row(q, row)
    bottom = shared_bottom(q, row)
    factors = list_factors(q, told_maps(q, len(row) - 1), tops_over(q, row, bottom))
    # From the top on: there the coordinates are the longest ones the least.
    found = [
        told_quotient(q, times_exponents(q, factorial_exponents(q, k), factors[k]), bottom)
        for k in range(len(row) - 1, -1, -1)
    ]
    return tuple(found[::-1])


def of_coordinates(q, row):
    """The row in which the whole base rows are multiplied by these quotients."""
    check_row(q, row)
    bottom = shared_bottom(q, row)
    whole = factorial_exponents(q, len(row) - 1)
    factors = [
        times_exponents(q, less_exponents(whole, factorial_exponents(q, k)), top)
        for k, top in enumerate(tops_over(q, row, bottom))
    ]
    below = times_brackets(q, whole, bottom)
    return tuple([told_quotient(q, a, below) for a in list_of_factors(q, told_maps(q, len(row) - 1), factors)])


def is_whole(q, row):
    """Whether all coordinates of a row are whole; nothing is checked."""
    exponents = factorial_exponents(q, len(row) - 1)
    whole = times_brackets(q, exponents, (1,))
    # The coefficients of whole base rows are whole if they are multiplied by the factorial of the greatest k.
    if not all([len(row_divided(q, whole, bottom)[1]) == 0 for _, bottom in row]):
        return False
    for k, factor in enumerate(list_factors(q, told_maps(q, len(row) - 1), tops_over(q, row, whole))):
        bottom = times_brackets(q, less_exponents(exponents, factorial_exponents(q, k)), (1,))
        if len(row_divided(q, factor, bottom)[1]) > 0:
            return False
    return True


def is_whole_row(q, row):
    """Whether the row is whole everywhere."""
    check_row(q, row)
    return is_whole(q, row)


def is_whole_at(q, tops, bottom, a):
    """Whether the value at a of the row with these tops over the bottom is whole; nothing is checked."""
    total = ()
    for top in tops[::-1]:
        total = row_divided(q, row_sum(q, row_product(q, total, a), top), bottom)[1]
    return len(total) == 0


def bad_place(q, row):
    """A polynomial of a low degree at which the value of the row is not whole, None if there is none."""
    check_row(q, row)
    if is_whole(q, row):
        return None
    bottom = shared_bottom(q, row)
    tops = tops_over(q, row, bottom)
    # The base rows are 0 at many polynomials of lower degrees, so those of the greatest degree come first.
    number = whole_power(q, least_above(q, len(row) - 1)) - 1
    while number > 0 and is_whole_at(q, tops, bottom, tuple(digit_row(q, number))):
        number -= 1
    return tuple(digit_row(q, number))


def is_bad_place(q, row, value):
    """Whether the value is a polynomial of a low degree at which the value of the row is not whole."""
    check_row(q, row)
    if not is_row_over(q, value, least_above(q, len(row) - 1) - 1):
        return False
    bottom = shared_bottom(q, row)
    return not is_whole_at(q, tops_over(q, row, bottom), bottom, value)


def check_images(q, images):
    """Raise InvalidRow unless the value is a tuple of one to six quotients."""
    check_field(q)
    if not are_quotients(q, images, 1, MAX_IMAGES):
        raise InvalidRow("not a tuple of one to six quotients over the field")


def linear_coordinates(q, images):
    """The quotients by which E_0, E_1 and so on are multiplied in the map that takes T ** j to the member j."""
    check_images(q, images)
    bottom = (1,)
    tops = []
    found = []
    for j, image in enumerate(images):
        # The bottom grows only with the images that a coordinate hangs on.
        longer = common_multiple(q, bottom, image[1])
        factor = row_divided(q, longer, bottom)[0]
        tops = [row_product(q, factor, top) for top in tops]
        bottom = longer
        left = row_product(q, image[0], row_divided(q, bottom, image[1])[0])
        ahead = cut_parts(tops)
        # At T ** j the value of E_i is the coefficient of C_a with the index i, for a = T ** j.
        values = coefficient_list(q, (0,) * j + (1,), len(ahead))
        for value, top in zip(values, ahead):
            left = row_less(q, left, row_product(q, value, top))
        found.append(told_quotient(q, left, bottom))
        tops.append(left)
    return tuple(found)


def linear_value(q, images, a):
    """The value at a of the map that takes T ** j to the member j."""
    check_images(q, images)
    check_polynomial(q, a)
    if len(a) > len(images):
        raise InvalidPolynomial("not a polynomial of a degree below the number of images")
    used = [(element, image) for element, image in zip(a, images) if element != 0]
    parts = [image for _, image in used]
    bottom = shared_bottom(q, parts)
    total = ()
    for at, top in enumerate(tops_over(q, parts, bottom)):
        total = row_sum(q, total, row_scaled(q, used[at][0], top))
    return told_quotient(q, total, bottom)

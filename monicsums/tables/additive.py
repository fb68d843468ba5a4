"""Additive maps, Moore determinants and spans."""

from monicsums.errors import InvalidField, InvalidOperation, InvalidRow, TooMany
from monicsums.ground.fields import check_field, is_element
from monicsums.ground.polys import MAX_DEGREE, MAX_MADE, check_made, check_polynomial
from monicsums.ground.rows import is_row_over, row_scaled, row_sum
from monicsums.tables.parts import composed_degree, greatest_degree, leading_factor, less_raised, parts_composed
from monicsums.tables.parts import parts_less, parts_opposite, parts_sum, parts_value
from monicsums.tables.spans import is_in_span, moore_product, row_basis, span_parts, sums_degree, told_pivots

MAX_PARTS = 12
MAX_ROW = 8
# How many polynomials a row may have whose determinant is made.
MOST_MOORE = 4


def is_parts(q, value):
    """Whether the value is a tuple of at most twelve polynomials, the last one not 0."""
    if not isinstance(value, tuple) or len(value) > MAX_PARTS:
        return False
    if not all([is_row_over(q, part, MAX_DEGREE) for part in value]):
        return False
    return len(value) == 0 or len(value[-1]) > 0


def check_map_value(q, parts, degree):
    """Raise TooMany if the value of a map at a polynomial of this degree surely is too long."""
    # If two terms have the greatest degree, that is at most twice 2000: otherwise both could not be so near.
    if len(parts) > 0 and degree > 0 and composed_degree(q, parts, degree) > 2 * MAX_MADE:
        raise TooMany(MAX_MADE)


def made_additive(q, parts):
    """The additive map with these parts, which may be longer than passed ones."""
    made = Additive(q, ())
    made._parts = parts
    return made


class Additive:
    """An additive map: a sum of its parts times powers of x with the exponents 1, q, q * q and so on."""

    def __init__(self, q, parts):
        check_field(q)
        if not is_parts(q, parts):
            raise InvalidRow("not the parts of an additive map over the field")
        self._over = q
        self._parts = parts

    @property
    def over(self):
        """The number q of the elements of the field."""
        return self._over

    @property
    def parts(self):
        """The parts, that of x first."""
        return self._parts

    def __add__(self, other):
        if not isinstance(other, Additive):
            return NotImplemented
        check_same_over(self, other)
        return made_additive(self._over, parts_sum(self._over, self._parts, other._parts))

    def __sub__(self, other):
        if not isinstance(other, Additive):
            return NotImplemented
        check_same_over(self, other)
        return made_additive(self._over, parts_less(self._over, self._parts, other._parts))

    def __neg__(self):
        return made_additive(self._over, parts_opposite(self._over, self._parts))

    def __mul__(self, other):
        if not isinstance(other, Additive):
            return NotImplemented
        check_same_over(self, other)
        return made_additive(self._over, checked_composition(self._over, self._parts, other._parts))

    def __call__(self, a):
        check_polynomial(self._over, a)
        check_map_value(self._over, self._parts, len(a) - 1)
        made = parts_value(self._over, self._parts, a)
        check_made(len(made) - 1)
        return made

    def __eq__(self, other):
        return isinstance(other, Additive) and self._over == other._over and self._parts == other._parts

    def __len__(self):
        return len(self._parts)

    def __bool__(self):
        return bool(self._parts)

    def __str__(self):
        return f"additive map over {self._over} with {len(self._parts)} parts"

    def right_divided(self, other):
        """The pair (quotient, rest) with quotient * other + rest equal to this map, the rest shorter than other."""
        check_right_divisor(self, other)
        quotient, rest = divided_parts(self._over, self._parts, other.parts)
        return made_additive(self._over, quotient), made_additive(self._over, rest)


def check_same_over(one, other):
    """Raise InvalidField unless both additive maps are over one field."""
    if one.over != other.over:
        raise InvalidField("additive maps over two fields")


def checked_composition(q, one, other):
    """The parts of the map `one` with the map `other` put in: TooMany if they are too many or too long."""
    if len(one) == 0 or len(other) == 0:
        return ()
    if len(one) + len(other) - 1 > MAX_PARTS:
        raise TooMany(MAX_PARTS)
    check_made(composed_degree(q, one, greatest_degree(other)))
    return parts_composed(q, one, other)


def check_right_divisor(one, other):
    """Raise InvalidOperation unless a map may be divided by the value: its last part is an element other than 0."""
    if not isinstance(other, Additive) or other.over != one.over:
        raise InvalidOperation("not an additive map over the same field")
    if len(other.parts) == 0 or len(other.parts[-1]) != 1:
        raise InvalidOperation("not an additive map whose last part is an element")


def divided_parts(q, one, other):
    """The parts of the quotient and of the rest: TooMany if one of them is too long."""
    rest = one
    found = []
    degree = greatest_degree(other)
    for i in range(len(one) - len(other), -1, -1):
        factor = leading_factor(q, rest, other, i)
        # The greatest degree of the parts of quotient * other is that of some such term; so where a term is too
        # long, a part of the rest is, as those of this map are not.
        if len(factor) > 0:
            check_made(composed_degree(q, ((),) * i + (factor,), degree))
        found.append(factor)
        rest = less_raised(q, rest, factor, other, i)
    return tuple(found[::-1]), rest


def check_row(q, row):
    """Raise InvalidRow unless the value is a tuple of one to eight polynomials."""
    check_field(q)
    if not isinstance(row, tuple) or not 1 <= len(row) <= MAX_ROW:
        raise InvalidRow("not a tuple of one to eight polynomials")
    if not all([is_row_over(q, a, MAX_DEGREE) for a in row]):
        raise InvalidRow("not polynomials over the field")


def moore(q, row):
    """The determinant of the table with the q ** j-th powers of the polynomials of the row."""
    check_row(q, row)
    if len(row) > MOST_MOORE:
        raise TooMany(MOST_MOORE)
    basis = row_basis(q, row)
    if len(basis) < len(row):
        return ()
    check_made(sums_degree(q, basis))
    return moore_product(q, row)


def dependence(q, row):
    """Coefficients, not all 0, with which the row adds up to 0; None if there are none."""
    check_row(q, row)
    marks = told_pivots(q, row)[1]
    if len(marks) == 0:
        return None
    return marks[0] + (0,) * (len(row) - len(marks[0]))


def is_dependence(q, row, value):
    """Whether the value is a tuple of coefficients, not all 0, with which the row adds up to 0."""
    check_row(q, row)
    if not isinstance(value, tuple) or len(value) != len(row):
        return False
    if not all([is_element(q, element) for element in value]) or not any([element != 0 for element in value]):
        return False
    total = ()
    for element, a in zip(value, row):
        total = row_sum(q, total, row_scaled(q, element, a))
    return len(total) == 0


def span_additive(q, row):
    """The additive map that is the product of x - w over all w of the span of the row."""
    check_row(q, row)
    basis = row_basis(q, row)
    # The coefficient at x has the greatest degree: it is the product of all w of the span but 0, with a sign.
    check_made((q - 1) * sums_degree(q, basis))
    return made_additive(q, span_parts(q, basis))


def is_spanned(q, row, a):
    """Whether a polynomial is in the span of the row."""
    check_row(q, row)
    check_polynomial(q, a)
    return is_in_span(q, row, a)

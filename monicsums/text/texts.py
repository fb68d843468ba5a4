"""Texts of polynomials, quotients, rows and told values."""

from monicsums.errors import InvalidOperation, InvalidPolynomial, InvalidQuotient, InvalidRow, ParseError
from monicsums.ground.fields import check_field
from monicsums.ground.polys import MAX_DEGREE, check_polynomial, is_polynomial
from monicsums.ground.quotients import check_quotient, is_quotient
from monicsums.ground.rows import is_row_over
from monicsums.text.pieces import polynomial_piece, told_coefficients, told_pieces
from monicsums.text.values import MOST_DEEP, is_told, read_whole, value_text

MAX_TEXT = 20000
# How many polynomials a row may have.
MOST_MEMBERS = 60


def check_text(text):
    """Raise ParseError unless the value is a string that is not too long."""
    if not isinstance(text, str) or len(text) > MAX_TEXT:
        raise ParseError(None)


def is_row(q, value):
    """Whether the value is a tuple of at most sixty polynomials."""
    if not isinstance(value, tuple) or len(value) > MOST_MEMBERS:
        return False
    return all([is_row_over(q, a, MAX_DEGREE) for a in value])


def write_polynomial(q, a):
    """The text of a polynomial."""
    check_polynomial(q, a)
    return polynomial_piece(a)


def write_quotient(q, one):
    """The text of a quotient."""
    check_quotient(q, one)
    return f"{polynomial_piece(one[0])}/{polynomial_piece(one[1])}"


def write_row(q, row):
    """The text of a row."""
    check_field(q)
    if not is_row(q, row):
        raise InvalidRow("not a tuple of at most sixty polynomials over the field")
    return " ".join([polynomial_piece(a) for a in row])


def told_quotient(piece):
    """The pair of the top and the bottom that a piece tells, None if it is not like the text of a quotient."""
    parts = [told_coefficients(part) for part in piece.split("/")]
    if len(parts) != 2 or None in parts:
        return None
    return parts[0], parts[1]


def told_only(text, told):
    """What the only piece of a text tells by a function, which tells None for a wrong piece."""
    pieces = told_pieces(text)
    if len(pieces) == 0:
        raise ParseError(len(text))
    made = told(pieces[0][1])
    if made is None:
        raise ParseError(pieces[0][0])
    if len(pieces) > 1:
        raise ParseError(pieces[1][0])
    return made


def read_polynomial(q, text):
    """The polynomial with this text."""
    check_field(q)
    check_text(text)
    a = told_only(text, told_coefficients)
    if not is_polynomial(q, a):
        raise InvalidPolynomial("not a polynomial over the field")
    return a


def read_quotient(q, text):
    """The quotient with this text."""
    check_field(q)
    check_text(text)
    one = told_only(text, told_quotient)
    if not is_quotient(q, one):
        raise InvalidQuotient("not a quotient over the field")
    return one


def read_row(q, text):
    """The row with this text."""
    check_field(q)
    check_text(text)
    row = []
    for at, piece in told_pieces(text):
        a = told_coefficients(piece)
        if a is None:
            raise ParseError(at)
        row.append(a)
    if not is_row(q, tuple(row)):
        raise InvalidRow("not a tuple of at most sixty polynomials over the field")
    return tuple(row)


def write_value(value):
    """The text of a told value."""
    if not is_told(value, MOST_DEEP):
        raise InvalidOperation("not a told value")
    return value_text(value)


def read_value(text):
    """The told value with just this text."""
    check_text(text)
    return read_whole(text)

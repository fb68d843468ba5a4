"""Texts of polynomials and integers, and the pieces of a text; nothing is checked."""

DIGITS = "0123456789"


def polynomial_piece(a):
    """The text of a polynomial: its coefficients from that of 1 on."""
    if len(a) == 0:
        return "0"
    return ",".join([str(x) for x in a])


def told_coefficients(piece):
    """The tuple of the coefficients that a piece tells, `()` for `0`; None if it is not like the text of a polynomial.

    They need not be a polynomial over some field.
    """
    signs = piece.split(",")
    if not all([len(sign) == 1 and sign in DIGITS for sign in signs]):
        return None
    row = tuple([int(sign) for sign in signs])
    return () if row == (0,) else row


def is_integer_piece(piece):
    """Whether a piece tells an integer: decimal digits without zeros ahead, perhaps behind a sign."""
    digits = piece[1:] if piece[:1] == "-" else piece
    if len(digits) == 0 or not all([sign in DIGITS for sign in digits]):
        return False
    return digits[0] != "0" or piece == "0"


def told_pieces(text):
    """The list of the pairs (index, piece) of a text."""
    found = []
    at = 0
    for piece in text.split(" "):
        if len(piece) > 0:
            found.append((at, piece))
        at = at + len(piece) + 1
    return found

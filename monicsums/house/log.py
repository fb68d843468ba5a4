"""Logs: texts that tell a shelf by all calls that changed it."""

from monicsums.errors import InvalidOperation, MonicError, ParseError, Refused, TooMany
from monicsums.house.shelf import Shelf
from monicsums.text.pieces import is_integer_piece, polynomial_piece, told_coefficients

# No integer in a log is longer.
MOST_DIGITS = 60


def edit_text(edit):
    """The text of an edit."""
    if edit[0] == "put":
        return f"put {edit[1]} {polynomial_piece(edit[2])}"
    return " ".join([str(part) for part in edit])


def first_line(shelf):
    """The line of the first edition, without a newline."""
    polynomials = shelf.polynomials_at(1)
    parts = [f"{name} {polynomial_piece(polynomials[name])}" for name in polynomials]
    return " / ".join([f"shelf {shelf.field}"] + parts)


def call_line(call):
    """The line of a member of the history, without a newline."""
    word, told = call
    if word == "edit":
        return "edit " + " / ".join([edit_text(edit) for edit in told])
    return "pin " + " ".join([str(part) for part in told])


def log_text(shelf):
    """The log of a shelf."""
    if not isinstance(shelf, Shelf):
        raise InvalidOperation("not a shelf")
    lines = [first_line(shelf)] + [call_line(call) for call in shelf.history]
    return "".join([f"{line}\n" for line in lines])


def told_integer(piece):
    """The integer that a piece tells, None if it tells none that may be passed."""
    if len(piece) > MOST_DIGITS or not is_integer_piece(piece):
        return None
    return int(piece)


def told_edit(text):
    """The edit with this text; what is no edit if there is none."""
    words = text.split(" ")
    if words[0] == "put" and len(words) == 3:
        return "put", words[1], told_coefficients(words[2])
    if words[0] == "move" and len(words) == 2:
        return "move", told_integer(words[1])
    return tuple(words)


def told_question(text):
    """The question with this text; what is no question if there is none."""
    words = text.split(" ")
    if words[0] == "zero":
        return ("zero",) + tuple([told_integer(word) for word in words[1:]])
    return tuple(words)


def check_written(line, written):
    """Raise InvalidOperation unless a line is what would be written for what it tells."""
    if line != written:
        raise InvalidOperation("not a line of a log")


def first_shelf(line):
    """The shelf that the first line tells."""
    parts = line.split(" / ")
    polynomials = {}
    for part in parts[1:]:
        name, _, piece = part.partition(" ")
        polynomials[name] = told_coefficients(piece)
    made = Shelf(told_integer(parts[0].partition(" ")[2]), polynomials)
    check_written(line, first_line(made))
    return made


def do_line(shelf, line):
    """Do the call that a line behind the first one tells."""
    word, _, told = line.partition(" ")
    if word == "edit":
        shelf.edit(tuple([told_edit(text) for text in told.split(" / ")]))
    else:
        shelf.pin(told_question(told))
    # Another word than these two would not be written.
    check_written(line, call_line(shelf.history[-1]))


def read_lines(lines):
    """The shelf that lines tell: ParseError with the index of the first one that is wrong."""
    at = 0
    try:
        shelf = first_shelf(lines[0])
        for line in lines[1:]:
            at += 1
            do_line(shelf, line)
    except (MonicError, Refused, TooMany):
        raise ParseError(at) from None
    return shelf


def read_log(text):
    """The pair of the shelf that a log tells, and of how many characters its lines with a newline have."""
    if not isinstance(text, str):
        raise ParseError(None)
    lines = text.split("\n")[:-1]
    if len(lines) == 0:
        raise ParseError(0)
    return read_lines(lines), text.rfind("\n") + 1

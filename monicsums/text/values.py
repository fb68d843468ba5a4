"""Told values: `None`, integers, and tuples of told values; how they are written and read."""

from monicsums.errors import ParseError
from monicsums.ground.integers import is_integer
from monicsums.text.pieces import DIGITS

MOST_DEEP = 8
MOST_DIGITS = 60


def is_told(value, deep):
    """Whether the value is a told value that is nested at most so deep."""
    if value is None or is_integer(value):
        return True
    if not isinstance(value, tuple) or deep == 0:
        return False
    return all([is_told(part, deep - 1) for part in value])


def value_text(value):
    """The text of a told value; nothing is checked."""
    if value is None:
        return "none"
    if isinstance(value, int):
        return str(value)
    inner = " ".join([value_text(part) for part in value])
    return f"({inner})"


def none_end(text, at):
    """The index behind `none`, which begins at an index."""
    for sign in "none":
        if text[at:at + 1] != sign:
            raise ParseError(at)
        at += 1
    return at


def integer_end(text, at):
    """The index behind an integer that begins at an index."""
    if text[at] == "-":
        at += 1
        if text[at:at + 1] in ("", "0"):
            raise ParseError(at)
    first = at
    most = 1 if text[at:at + 1] == "0" else MOST_DIGITS
    # The digit that is too many is met where the text goes on behind the integer.
    while at < len(text) and at - first < most and text[at] in DIGITS:
        at += 1
    if at == first:
        raise ParseError(at)
    return at


def read_atom(text, at):
    """The pair of the told value other than a tuple that begins at an index, and of the index behind it."""
    if text[at:at + 1] == "n":
        return None, none_end(text, at)
    if at == len(text):
        raise ParseError(at)
    end = integer_end(text, at)
    return int(text[at:end]), end


def read_part(text, at, deep):
    """The pair of the told value that begins at an index, nested at most so deep, and of the index behind it."""
    if text[at:at + 1] != "(" or deep == 0:
        return read_atom(text, at)
    at += 1
    parts = []
    while text[at:at + 1] != ")":
        # Behind a member the text goes on with a blank and a further one, or ends with a bracket.
        if len(parts) > 0:
            if text[at:at + 1] != " ":
                raise ParseError(at)
            at += 1
        part, at = read_part(text, at, deep - 1)
        parts.append(part)
    return tuple(parts), at + 1


def read_whole(text):
    """The told value with just this text."""
    value, end = read_part(text, 0, MOST_DEEP)
    if end < len(text):
        raise ParseError(end)
    return value

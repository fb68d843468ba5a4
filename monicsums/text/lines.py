"""The forms of the lines of a shell."""

from monicsums.house.questions import is_name
from monicsums.text.pieces import is_integer_piece, told_coefficients

# What may stand behind each word, and behind the word of a question; `hang` is content with one name.
FORMS = {
    "put": ("name", "equals", "polynomial"), "drop": ("name",), "add": ("name", "name"), "times": ("name", "name"),
    "move": ("integer",), "stand": ("integer",), "show": ("name",), "factor": ("name",),
    "degree": ("integer", "integer"), "names": (),
}
QUESTIONS = {"zero": ("integer", "integer"), "divides": ("name", "name"), "hang": ("name", "name", "name", "name")}
ASKING = ("ask", "pin")


def can_stand(kind, piece):
    """Whether a piece may stand where this kind of pieces stands."""
    if kind == "name":
        return is_name(piece)
    if kind == "integer":
        return is_integer_piece(piece)
    if kind == "equals":
        return piece == "="
    return told_coefficients(piece) is not None


def wrong_among(pieces, kinds, least, length):
    """The index of the first piece that cannot stand where it stands, the length if one is lacking; else None."""
    for at, (index, piece) in enumerate(pieces):
        if at >= len(kinds) or not can_stand(kinds[at], piece):
            return index
    return length if len(pieces) < least else None


def wrong_index(pieces, length):
    """The index at which a line of this length, with one piece at least, is wrong; None if it is not."""
    index, word = pieces[0]
    if word in FORMS:
        return wrong_among(pieces[1:], FORMS[word], len(FORMS[word]), length)
    if word not in ASKING:
        return index
    if len(pieces) == 1:
        return length
    index, word = pieces[1]
    if word not in QUESTIONS:
        return index
    least = 1 if word == "hang" else 2
    return wrong_among(pieces[2:], QUESTIONS[word], least, length)


def kinds_of(pieces):
    """The kinds of the pieces of a line without wrong ones, as a tuple; words are of the kind `word`."""
    word = pieces[0][1]
    if word in FORMS:
        return ("word",) + FORMS[word]
    return ("word", "word") + QUESTIONS[pieces[1][1]]


def told_line(pieces):
    """The tuple of what the pieces of a line without wrong ones tell: integers as such, all else as strings."""
    return tuple([
        int(piece) if kind == "integer" else piece for kind, (_, piece) in zip(kinds_of(pieces), pieces)
    ])

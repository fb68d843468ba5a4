"""A shell: lines that edit a shelf, and ask of it."""

from monicsums.errors import InvalidNumber, InvalidOperation, MonicError, Refused, TooMany, UnknownName
from monicsums.ground.polys import factors
from monicsums.house.shelf import Shelf, decide
from monicsums.sums.degrees import sum_degree
from monicsums.text.lines import told_line, wrong_index
from monicsums.text.pieces import told_pieces
from monicsums.text.texts import read_polynomial, write_polynomial, write_value

MAX_LINE = 2000
MOST_LINES = 40


def is_line(value):
    """Whether the value is a string of at most 2000 printable ASCII characters."""
    if not isinstance(value, str) or len(value) > MAX_LINE:
        return False
    return all([" " <= sign <= "~" for sign in value])


def named(shelf, name):
    """The polynomial with this name at the last edition."""
    if name not in shelf:
        raise UnknownName(name)
    return shelf.polynomials_at()[name]


def do_put(shelf, told):
    """The answer to `put A = P`."""
    a = read_polynomial(shelf.field, told[3])
    return do_edit(shelf, ("put", told[1], a))


def do_edit(shelf, told):
    """The answer to an edit."""
    return f"edition {shelf.edit((told,))}"


def do_ask(shelf, told):
    """The answer to `ask` with a question."""
    verdict, paper = decide(shelf.field, shelf.polynomials_at(), told[1:])
    word = "yes" if verdict else "no"
    return f"{word} {write_value(paper)}"


def do_pin(shelf, told):
    """The answer to `pin` with a question."""
    return f"claim {shelf.pin(told[1:])}"


def do_stand(shelf, told):
    """The answer to `stand I`."""
    return shelf.standing(told[1])[0]


def do_show(shelf, told):
    """The answer to `show A`."""
    return write_polynomial(shelf.field, named(shelf, told[1]))


def do_factor(shelf, told):
    """The answer to `factor A`."""
    return write_value(factors(shelf.field, named(shelf, told[1])))


def do_degree(shelf, told):
    """The answer to `degree I I`."""
    return str(sum_degree(shelf.field, told[1], told[2]))


def do_names(shelf, _):
    """The answer to `names`."""
    return " ".join(list(shelf.polynomials_at()))


ACTIONS = {
    "put": do_put, "drop": do_edit, "add": do_edit, "times": do_edit, "move": do_edit, "ask": do_ask, "pin": do_pin,
    "stand": do_stand, "show": do_show, "factor": do_factor, "degree": do_degree, "names": do_names,
}


def done(shelf, told):
    """The answer to a line without wrong pieces, which tells a word and what stands behind it."""
    action = ACTIONS[told[0]]
    return action(shelf, told)


def answered(shelf, line):
    """The answer to a line."""
    pieces = told_pieces(line)
    if len(pieces) == 0:
        return ""
    at = wrong_index(pieces, len(line))
    if at is not None:
        return f"wrong at {at}"
    try:
        return done(shelf, told_line(pieces))
    except Refused as refusal:
        word = refusal.reason[-1]
        return f"refused {word}"
    except TooMany as excess:
        return f"too many {excess.limit}"
    except (MonicError, InvalidNumber, UnknownName):
        return "invalid"


class Shell:
    """Does what lines tell with a shelf, and answers."""

    def __init__(self, shelf):
        if not isinstance(shelf, Shelf):
            raise InvalidOperation("not a shelf")
        self._shelf = shelf
        self._said = 0

    @property
    def said(self):
        """How many lines were said."""
        return self._said

    def say(self, line):
        """The answer to a line, which is done."""
        if not is_line(line):
            raise InvalidOperation("not a line of printable characters")
        self._said = self._said + 1
        return answered(self._shelf, line)

    def run(self, lines):
        """The tuple of the answers to lines, which are done one after the other."""
        if not isinstance(lines, tuple) or len(lines) > MOST_LINES or not all([is_line(line) for line in lines]):
            raise InvalidOperation("not a tuple of at most forty lines")
        return tuple([self.say(line) for line in lines])

    def __str__(self):
        return f"shell, {self._said} lines said"

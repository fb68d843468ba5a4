"""What the tests of the shelf, the log and the shell share: calls that look like chance."""

from monicsums import errors
from monicsums.house.shelf import Shelf

NAMES = ("a", "b", "c", "d1", "zz", "longname", "x0y1z2")


def some_edit(q, numbers, most=6):
    """An edit that may be refused."""
    one, other = NAMES[numbers.below(len(NAMES))], NAMES[numbers.below(len(NAMES))]
    word = ("put", "put", "put", "drop", "add", "times", "move")[numbers.below(7)]
    if word == "put":
        return "put", one, numbers.polynomial(q, numbers.below(most + 2) - 1)
    if word == "drop":
        return "drop", one
    if word == "move":
        return "move", numbers.below(q)
    return word, one, other


def some_question(numbers):
    """A question by its form, which may be about names that are not there."""
    names = [NAMES[numbers.below(4)] for _ in range(4)]
    word = ("zero", "divides", "divides", "hang", "hang")[numbers.below(5)]
    if word == "zero":
        return "zero", numbers.below(4), numbers.below(300)
    if word == "divides":
        return "divides", names[0], names[1]
    return ("hang",) + tuple(names[:1 + numbers.below(4)])


def tried(call, *arguments):
    """The result of a call, or its error."""
    try:
        return call(*arguments)
    except (errors.MonicError, errors.Refused, errors.TooMany, errors.InvalidNumber) as wrong:
        return wrong


def some_shelf(q, numbers, many=25):
    """A shelf with edits and claims of all kinds."""
    shelf = Shelf(q, {name: numbers.polynomial(q, numbers.below(4)) for name in NAMES[:4]})
    for _ in range(many):
        if numbers.below(3) == 0:
            tried(shelf.pin, some_question(numbers))
        else:
            edits = tuple(some_edit(q, numbers) for _ in range(1 + numbers.below(3)))
            tried(shelf.edit, edits)
    return shelf

"""Edits of named polynomials; values that are judged may be any, and nothing else is checked."""

from monicsums.ground.integers import is_between
from monicsums.ground.polys import MAX_DEGREE
from monicsums.ground.rows import is_row_over, row_product, row_sum
from monicsums.ground.tables import PRODUCTS, SUMS
from monicsums.house.questions import is_name

# For each word of an edit with names alone, how many they are.
NAMED = {"drop": 1, "add": 2, "times": 2}


def is_editing(q, value):
    """Whether the value is an edit by its form."""
    if not isinstance(value, tuple) or len(value) < 2 or not isinstance(value[0], str):
        return False
    word = value[0]
    if word == "put":
        return len(value) == 3 and is_name(value[1]) and is_row_over(q, value[2], MAX_DEGREE)
    if word == "move":
        return len(value) == 2 and is_between(value[1], 0, q - 1)
    return len(value) - 1 == NAMED.get(word, 0) and all([is_name(name) for name in value[1:]])


def needed_names(edit):
    """The names that must be there."""
    return edit[1:] if edit[0] in NAMED else ()


def greatest_length(polynomials, edit):
    """How many coefficients the polynomial that `put` or `times` makes has at most; 0 for the other edits."""
    if edit[0] == "put":
        return len(edit[2])
    if edit[0] == "times":
        return len(polynomials[edit[1]]) + len(polynomials[edit[2]]) - 1
    return 0


def moved(q, a, element):
    """The polynomial a with T + element put in for T."""
    sums = SUMS[q]
    products = PRODUCTS[q][element]
    made = []
    # What was made so far, times T + element, and the next coefficient.
    for x in a[::-1]:
        made = [sums[y][products[z]] for y, z in zip([x] + made, made + [0])]
    return tuple(made)


def made_by(q, polynomials, edit):
    """The polynomial that a gets by an edit of the form (word, a, ..)."""
    if edit[0] == "put":
        return edit[2]
    one = polynomials[edit[1]]
    other = polynomials[edit[2]]
    if edit[0] == "add":
        return row_sum(q, one, other)
    return row_product(q, one, other)


def behind_edit(q, polynomials, edit):
    """The named polynomials behind an edit that is not refused, names ascending."""
    if edit[0] == "move":
        return {name: moved(q, polynomials[name], edit[1]) for name in polynomials}
    if edit[0] == "drop":
        return {name: polynomials[name] for name in polynomials if name != edit[1]}
    found = dict(polynomials)
    found[edit[1]] = made_by(q, polynomials, edit)
    return {name: found[name] for name in sorted(found)}

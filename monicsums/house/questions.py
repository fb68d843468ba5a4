"""Questions about named polynomials: whether the answer is yes, and the paper that shows it.

The polynomials are a dict from names to polynomials. Values that are judged may be any.
"""

from monicsums.ground.integers import is_between, is_from
from monicsums.ground.rows import is_row_over, row_divided, row_scaled, row_sum
from monicsums.sums.partings import digit_bar, is_digit_bar, is_parting, parting
from monicsums.tables.additive import is_dependence
from monicsums.tables.spans import told_pivots

LETTERS = "abcdefghijklmnopqrstuvwxyz"
SIGNS = "abcdefghijklmnopqrstuvwxyz0123456789"
LONGEST_NAME = 8
# The greatest d of a question, and how many polynomials may be asked to hang together.
MOST_D = 300
MOST_HANGING = 4


def is_name(value):
    """Whether the value is a name."""
    if not isinstance(value, str) or not 1 <= len(value) <= LONGEST_NAME:
        return False
    return value[0] in LETTERS and all([sign in SIGNS for sign in value])


def is_asking(value):
    """Whether the value is a question by its form."""
    if not isinstance(value, tuple) or len(value) < 2:
        return False
    word = value[0]
    told = value[1:]
    if word == "zero":
        return len(told) == 2 and is_between(told[0], 0, MOST_D) and is_from(told[1], 0)
    if word == "divides":
        return len(told) == 2 and all([is_name(name) for name in told])
    return word == "hang" and len(told) <= MOST_HANGING and all([is_name(name) for name in told])


def is_about(polynomials, value):
    """Whether the value is a question about these polynomials."""
    if not is_asking(value):
        return False
    if value[0] == "zero":
        return True
    if not all([name in polynomials for name in value[1:]]):
        return False
    return value[0] == "hang" or len(polynomials[value[1]]) > 0


def decided_zero(q, d, k):
    """Whether S(d, k) is 0, with a bar or a parting."""
    bar = digit_bar(q, d, k)
    if bar is None:
        return False, parting(q, d, k)
    return True, bar


def decided_divides(q, a, b):
    """Whether a divides b, with the quotient, or with the quotient and the rest."""
    quotient, rest = row_divided(q, b, a)
    if len(rest) > 0:
        return False, (quotient, rest)
    return True, quotient


def longer_mark(mark, many):
    """The tuple of so many coefficients of the polynomial whose coefficients are those of a sum."""
    return mark + (0,) * (many - len(mark))


def decided_hang(q, rows):
    """Whether a sum of these polynomials is 0, with its coefficients, or with those of sums of unlike degrees."""
    pivots, marks = told_pivots(q, rows)
    if len(marks) > 0:
        return True, longer_mark(marks[0], len(rows))
    return False, tuple([longer_mark(pivots[length][1], len(rows)) for length in pivots])


def decided(q, polynomials, question):
    """The pair of the verdict and a paper for a question about these polynomials."""
    if question[0] == "zero":
        return decided_zero(q, question[1], question[2])
    rows = [polynomials[name] for name in question[1:]]
    if question[0] == "divides":
        return decided_divides(q, rows[0], rows[1])
    return decided_hang(q, rows)


def is_zero_paper(q, d, k, verdict, value):
    """Whether the value shows that S(d, k) is 0, or is not."""
    if verdict:
        return is_digit_bar(q, d, k, value)
    return is_parting(q, d, k, value)


def is_divides_paper(q, a, b, verdict, value):
    """Whether the value shows that a divides b, or does not."""
    quotient, rest = row_divided(q, b, a)
    if verdict != (len(rest) == 0):
        return False
    if verdict:
        return is_row_over(q, value, len(b)) and value == quotient
    if not isinstance(value, tuple) or len(value) != 2:
        return False
    return all([is_row_over(q, part, len(b)) for part in value]) and value == (quotient, rest)


def sum_length(q, rows, factors):
    """The number of coefficients of the sum of the polynomials, each times its factor."""
    total = ()
    for a, factor in zip(rows, factors):
        total = row_sum(q, total, row_scaled(q, factor, a))
    return len(total)


def is_hang_paper(q, rows, verdict, value):
    """Whether the value shows that a sum of the polynomials is 0, or that none is."""
    if verdict:
        return is_dependence(q, tuple(rows), value)
    if not isinstance(value, tuple) or len(value) != len(rows):
        return False
    for factors in value:
        if not isinstance(factors, tuple) or len(factors) != len(rows):
            return False
        if not all([is_between(factor, 0, q - 1) for factor in factors]):
            return False
    lengths = sorted([sum_length(q, rows, factors) for factors in value])
    return all([one < other for one, other in zip([0] + lengths, lengths)])


def is_shown(q, polynomials, question, verdict, value):
    """Whether the value is a paper for the verdict, True or False, on a question about these polynomials."""
    if question[0] == "zero":
        return is_zero_paper(q, question[1], question[2], verdict, value)
    rows = [polynomials[name] for name in question[1:]]
    if question[0] == "divides":
        return is_divides_paper(q, rows[0], rows[1], verdict, value)
    return is_hang_paper(q, rows, verdict, value)

"""Additive maps as tuples of their parts: what is done with them, where nothing is checked."""

from monicsums.ground.integers import whole_power
from monicsums.ground.rows import row_less, row_opposite, row_product, row_scaled, row_stretched, row_sum
from monicsums.ground.tables import INVERSES


def cut_parts(parts):
    """The tuple of the parts of a list without the zeros at its end."""
    end = len(parts)
    while end > 0 and len(parts[end - 1]) == 0:
        end -= 1
    return tuple(parts[:end])


def parts_sum(q, one, other):
    """The map of the sums of two maps."""
    shared = [row_sum(q, a, b) for a, b in zip(one, other)]
    return cut_parts(shared + list(one[len(other):]) + list(other[len(one):]))


def parts_opposite(q, one):
    """The map that adds to this one to 0."""
    return tuple([row_opposite(q, a) for a in one])


def parts_less(q, one, other):
    """The map of the differences of two maps."""
    return parts_sum(q, one, parts_opposite(q, other))


def greatest_degree(parts):
    """The greatest degree of the parts, -1 for the map 0."""
    return max([len(part) for part in parts], default=0) - 1


def raised(q, a, i):
    """a to the power q ** i."""
    # Where a is an element this is a, however great the power.
    if len(a) < 2:
        return a
    return row_stretched(a, whole_power(q, i))


def product_raised(q, part, a, i):
    """The product of the part and of a to the power q ** i, which is not made where the part is 0."""
    if len(part) == 0:
        return ()
    return row_product(q, part, raised(q, a, i))


def composed_degree(q, one, degree):
    """The greatest degree of what the map `one` other than 0 makes of polynomials of this degree, term by term.

    It is just the greatest degree of the parts of a composition, too, where the parts of the inner map have this
    greatest degree: on the polynomials in x the greatest degree of the coefficients goes over compositions.
    """
    return max([len(part) - 1 + whole_power(q, i) * degree for i, part in enumerate(one) if len(part) > 0])


def composed_part(q, one, other, at):
    """The part with the index `at` of the map `one` with the map `other` put in."""
    total = ()
    for i in range(max(0, at - len(other) + 1), min(at + 1, len(one))):
        total = row_sum(q, total, product_raised(q, one[i], other[at - i], i))
    return total


def parts_composed(q, one, other):
    """The map `one` with the map `other` put in; neither is 0."""
    return tuple([composed_part(q, one, other, at) for at in range(len(one) + len(other) - 1)])


def parts_value(q, parts, a):
    """The value of a map at a."""
    total = ()
    for i, part in enumerate(parts):
        total = row_sum(q, total, product_raised(q, part, a, i))
    return total


def leading_factor(q, rest, other, i):
    """The polynomial c for which the rest, less c times the q ** i-th power of the other map, has fewer parts."""
    if len(rest) < len(other) + i:
        return ()
    # The last part of the other map is an element, which all these powers leave as it is.
    return row_scaled(q, INVERSES[q][other[-1][0]], rest[-1])


def less_raised(q, rest, factor, other, i):
    """The map `rest` less the factor times the q ** i-th power of the other map."""
    taken = [() for _ in range(i)] + [product_raised(q, factor, part, i) for part in other]
    return cut_parts([row_less(q, a, b) for a, b in zip(rest, taken)] + list(rest[len(taken):]))

"""Euclid's way from two polynomials to their common divisor, with all rests on it; nothing is checked."""

from monicsums.ground.bits import bits_of, bits_rest, row_of_bits
from monicsums.ground.packing import BITS, repeated
from monicsums.ground.rows import SHORT, SHORT_BITS, row_divided
from monicsums.ground.slots import slots_number, slots_rest, slots_row
from monicsums.ground.tables import POWERS, PRIMES


def bits_chain(q, a, b):
    """The list of a, b and the rests, over a field with p = 2; b is not longer than a, and not 0."""
    f = POWERS[q]
    numbers = [bits_of(q, a), bits_of(q, b)]
    while numbers[-1] > 0:
        numbers.append(bits_rest(q, numbers[-2], numbers[-1]))
    return [row_of_bits(q, number, (number.bit_length() + f - 1) // f) for number in numbers[:-1]]


def slots_chain(q, a, b):
    """The list of a, b and the rests, over a field with an odd p; b is not longer than a, and not 0."""
    size = BITS * POWERS[q]
    pairs = [(slots_number(q, a), len(a)), (slots_number(q, b), len(b))]
    ones = repeated("00001", len(b) * POWERS[q])
    held = len(b)
    while pairs[-1][1] > 0:
        one, many = pairs[-2]
        other, few = pairs[-1]
        ones = ones >> size * (held - few + 1)
        held = few - 1
        rest = slots_rest(q, one, many, other, few, ones)
        pairs.append((rest, (rest.bit_length() + size - 1) // size))
    return [slots_row(q, number, many) for number, many in pairs[:-1]]


def rest_chain(q, a, b):
    """The list of a, b and the rests: each but the first two is that of the two ahead of it, and none is 0.

    a is not 0, and longer than b.
    """
    if len(b) > SHORT_BITS and PRIMES[q] == 2:
        return [tuple(row) for row in bits_chain(q, a, b)]
    if len(b) > SHORT:
        return [tuple(row) for row in slots_chain(q, a, b)]
    rows = [a, b]
    while len(rows[-1]) > 0:
        rows.append(row_divided(q, rows[-2], rows[-1])[1])
    return rows[:-1]

"""Polynomials over the fields with an odd p as integers: quotients and common divisors by few operations of integers.

Each coefficient has a slot of its own for each digit of its element in base p. Multiples of the divisor are added,
which take the highest coefficients to multiples of p, and only at the end the slots are brought back to digits.
"""

from monicsums.ground.packing import BITS, SLOTS, most_in_slots, reduced_slots, repeated, unpacked
from monicsums.ground.tables import INVERSES, OPPOSITES, POWERS, PRIMES, PRODUCTS

LOWEST = 1048575
# PAIRS[x] has both slots of the element x for q = 9, as hexadecimal digits.
PAIRS = (
    "0000000000", "0000000001", "0000000002", "0000100000", "0000100001", "0000100002", "0000200000", "0000200001",
    "0000200002",
)


def slots_number(q, a):
    """The integer whose slots hold the coefficients of a polynomial."""
    texts = PAIRS if q == 9 else SLOTS[q]
    return int("0" + "".join([texts[x] for x in a[::-1]]), 16)


def slots_row(q, number, many):
    """The list of the `many` coefficients that an integer with digits in its slots holds."""
    row = unpacked(PRIMES[q], number, many * POWERS[q])
    if q == 9:
        return [low + 3 * high for low, high in zip(row[::2], row[1::2])]
    return row


def top_element(q, number):
    """The element that the slots of one coefficient tell; they may hold more than digits."""
    if q == 9:
        return (number & LOWEST) % 3 + (number >> BITS) % 3 * 3
    return number % q


def slots_steps(q, number, ones):
    """The list of a polynomial and, for q = 9, of its product with u, where the slots hold at most 4.

    There is 1 in each slot of `ones`.
    """
    if q != 9:
        return [number]
    # The quotient has 1 in the lower slot of each coefficient.
    high = (number >> BITS) & (ones // (LOWEST + 2)) * 3
    # The higher digit goes to both, as u * u is u + 1, and the lower one to the higher one.
    return [number, ((number - (high << BITS)) << BITS) + high + (high << BITS)]


def slots_times(q, steps, element):
    """The product of the element and of the polynomial with these steps; the slots may hold more than digits."""
    if q != 9:
        return steps[0] * element
    return steps[0] * (element % 3) + steps[1] * (element // 3)


def slots_divided(q, a, b):
    """The lists of the coefficients of the quotient and of the rest of a divided by b, which is not longer."""
    size = BITS * POWERS[q]
    few = len(b) - 1
    place = size * few
    inverses = PRODUCTS[q][OPPOSITES[q][INVERSES[q][b[-1]]]]
    ones = repeated("00001", few * POWERS[q])
    steps = slots_steps(q, slots_number(q, b[:-1]), ones)
    multiples = [slots_times(q, steps, element) for element in range(q)]
    digits = [slots_number(q, (element,)) for element in range(q)]
    rest = slots_number(q, a[len(a) - few:])
    factors = []
    for x in a[len(a) - few - 1::-1]:
        rest = (rest << size) + digits[x]
        top = rest >> place
        factor = inverses[top_element(q, top)]
        factors.append(factor)
        rest = rest - (top << place) + multiples[factor]
    rest = reduced_slots(PRIMES[q], rest, ones, most_in_slots(min(few, len(factors))))
    return [OPPOSITES[q][factor] for factor in factors[::-1]], slots_row(q, rest, few)


def slots_rest(q, one, many, other, few, ones):
    """The rest, with digits in its slots, of a polynomial with many coefficients by one with few, no more.

    The slots of both hold digits, and `ones` has 1 in each slot of the rest.
    """
    size = BITS * POWERS[q]
    lead = other >> size * (few - 1)
    inverses = PRODUCTS[q][OPPOSITES[q][INVERSES[q][top_element(q, lead)]]]
    steps = slots_steps(q, other - (lead << size * (few - 1)), ones)
    rest = one
    for at in range(many - few, -1, -1):
        place = size * (at + few - 1)
        top = rest >> place
        if top > 0:
            factor = inverses[top_element(q, top)]
            rest = rest - (top << place) + (slots_times(q, steps, factor) << size * at)
    return reduced_slots(PRIMES[q], rest, ones, most_in_slots(min(few, many - few + 1)))


def slots_common(q, a, b):
    """The list of the coefficients of a common divisor of the greatest degree; b is not longer than a, and not 0."""
    size = BITS * POWERS[q]
    one = slots_number(q, a)
    other = slots_number(q, b)
    many = len(a)
    few = len(b)
    ones = repeated("00001", few * POWERS[q])
    held = few
    while few > 0:
        ones = ones >> size * (held - few + 1)
        held = few - 1
        rest = slots_rest(q, one, many, other, few, ones)
        one = other
        many = few
        other = rest
        few = (rest.bit_length() + size - 1) // size
    return slots_row(q, one, many)

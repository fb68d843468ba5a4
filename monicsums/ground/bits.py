"""Polynomials over the fields with p = 2 as integers: quotients and common divisors by few operations of integers.

Each coefficient has as many bits as its element has digits in base 2, so sums are taken without carries.
"""

from monicsums.ground.tables import INVERSES, POWERS, PRODUCTS

DIGITS = "01234567"
PAIRS = {"00": 0, "01": 1, "10": 2, "11": 3}


def bits_of(q, a):
    """The integer whose digits in base q are the coefficients of a polynomial."""
    return int("0" + "".join([DIGITS[x] for x in a[::-1]]), q)


def row_of_bits(q, number, many):
    """The list of the first `many` coefficients that an integer holds."""
    if q == 4:
        text = f"{number:b}".zfill(2 * many)
        return [PAIRS[one + other] for one, other in zip(text[::2], text[1::2])][::-1]
    text = f"{number:b}" if q == 2 else f"{number:o}"
    return [int(digit) for digit in text.zfill(many)[::-1]]


def bit_steps(q, number, many):
    """The list of the products of a polynomial with 1, u and u * u, as many as the field has."""
    f = POWERS[q]
    steps = [number]
    ones = int("0" + "1" * many, q)
    for _ in range(f - 1):
        # The highest digit of each coefficient goes to the lowest one and to the next, as u ** f is u + 1.
        high = (steps[-1] >> (f - 1)) & ones
        lower = steps[-1] ^ (high << (f - 1))
        steps.append((lower << 1) ^ high ^ (high << 1))
    return steps


def bits_times(steps, element):
    """The product of the element and of the polynomial with these steps."""
    made = 0
    for at, step in enumerate(steps):
        if (element >> at) & 1 == 1:
            made = made ^ step
    return made


def bits_divided(q, a, b):
    """The lists of the coefficients of the quotient and of the rest of a divided by b, which is not longer."""
    f = POWERS[q]
    few = len(b) - 1
    steps = bit_steps(q, bits_of(q, b), len(b))
    multiples = [bits_times(steps, element) for element in range(q)]
    inverses = PRODUCTS[q][INVERSES[q][b[-1]]]
    rest = bits_of(q, a)
    quotient = []
    for at in range(len(a) - len(b), -1, -1):
        element = inverses[rest >> f * (at + few)]
        quotient.append(element)
        rest = rest ^ (multiples[element] << f * at)
    return quotient[::-1], row_of_bits(q, rest, few)


def bits_rest(q, one, other):
    """The rest of the polynomial that an integer holds by another one, which is not longer."""
    f = POWERS[q]
    few = (other.bit_length() + f - 1) // f
    steps = bit_steps(q, other, few)
    inverses = PRODUCTS[q][INVERSES[q][other >> f * (few - 1)]]
    rest = one
    for at in range((one.bit_length() + f - 1) // f - few, -1, -1):
        top = rest >> f * (at + few - 1)
        if top > 0:
            rest = rest ^ (bits_times(steps, inverses[top]) << f * at)
    return rest


def bits_common(q, a, b):
    """The list of the coefficients of a common divisor of the greatest degree; b is not longer than a, and not 0."""
    one = bits_of(q, a)
    other = bits_of(q, b)
    while other > 0:
        rest = bits_rest(q, one, other)
        one = other
        other = rest
    f = POWERS[q]
    return row_of_bits(q, one, (one.bit_length() + f - 1) // f)

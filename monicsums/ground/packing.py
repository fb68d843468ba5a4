"""Long polynomials as integers: products by few operations of integers.

Each coefficient has slots of its own in a long integer, one slot for each power of u that occurs in a product of
two elements. The slots are so wide that no sum of products runs over: such a sum is at most 36 times the number of
coefficients, which stays far below 2 ** 20 // 36. An integer is packed if its slots hold elements: digits in base p,
and 0 for the powers of u from f on. What sums and products leave in the slots is brought back to that by `reduced`.
Where there is more than one slot, single products are quicker with an integer for each power of u, its planes.
"""

from monicsums.ground.tables import POWERS, PRIMES

# How many bits and how many hexadecimal digits a slot has.
BITS = 20
WIDTH = 5
# Below this bound the rest modulo p is told by one product with a number that is nearly 2 ** 12 / p.
SMALL = 384
# How many bits of a greater slot are folded, one fold after the other.
FOLDS = (10, 6)

# SLOTS[q][x] has the slots of the element x as hexadecimal digits, that of the highest power of u first.
SLOTS = {
    2: ("00000", "00001"),
    3: ("00000", "00001", "00002"),
    4: ("000000000000000", "000000000000001", "000000000100000", "000000000100001"),
    5: ("00000", "00001", "00002", "00003", "00004"),
    7: ("00000", "00001", "00002", "00003", "00004", "00005", "00006"),
    8: (
        "0000000000000000000000000", "0000000000000000000000001", "0000000000000000000100000",
        "0000000000000000000100001", "0000000000000010000000000", "0000000000000010000000001",
        "0000000000000010000100000", "0000000000000010000100001",
    ),
    9: (
        "000000000000000", "000000000000001", "000000000000002", "000000000100000", "000000000100001",
        "000000000100002", "000000000200000", "000000000200001", "000000000200002",
    ),
}
# PLANES[q][i][x] has the slot of the digit with the index i of the element x.
PLANES = {
    4: (
        ("00000", "00001", "00000", "00001"),
        ("00000", "00000", "00001", "00001"),
    ),
    8: (
        ("00000", "00001", "00000", "00001", "00000", "00001", "00000", "00001"),
        ("00000", "00000", "00001", "00001", "00000", "00000", "00001", "00001"),
        ("00000", "00000", "00000", "00000", "00001", "00001", "00001", "00001"),
    ),
    9: (
        ("00000", "00001", "00002", "00000", "00001", "00002", "00000", "00001", "00002"),
        ("00000", "00000", "00000", "00001", "00001", "00001", "00002", "00002", "00002"),
    ),
}
DIGITS = {"0": 0, "1": 1, "2": 2, "3": 3, "4": 4, "5": 5, "6": 6, "7": 7, "8": 8}


def slots_of(q):
    """How many slots a coefficient has."""
    return 2 * POWERS[q] - 1


def packed(q, a):
    """The integer whose slots hold the coefficients of a polynomial."""
    texts = SLOTS[q]
    return int("0" + "".join([texts[x] for x in a[::-1]]), 16)


def repeated(text, many):
    """The integer with the hexadecimal digits `text`, told many times."""
    return int("0" + text * many, 16)


def folded_powers(q, number, many):
    """The same coefficients without powers of u from f on: the f-th power of u is u + 1."""
    f = POWERS[q]
    if f == 1:
        return number
    high = number & repeated("fffff" * (f - 1) + "00000" * f, many)
    return number - high + (high >> BITS * f) + (high >> BITS * (f - 1))


def folded_slots(p, number, ones, bits):
    """The same slots modulo p, the upper part of each one times 2 ** bits modulo p added to its lower part."""
    lower = number & (ones * ((1 << bits) - 1))
    return lower + ((number - lower) >> bits) * ((1 << bits) % p)


def reduced_slots(p, number, ones, most):
    """The same slots modulo p; no slot holds more than `most`, and `ones` has 1 in each slot."""
    if p == 2:
        return number & ones
    if most >= SMALL:
        for bits in FOLDS:
            number = folded_slots(p, number, ones, bits)
    # A slot below 384 times this number is below 2 ** 20, and its bits from the twelfth one on are the quotient by p.
    quotients = ((number * (4096 // p + 1)) >> 12) & (ones * 255)
    return number - quotients * p


def reduced(q, number, many, most):
    """The packed integer with the same `many` coefficients; no slot holds more than `most`."""
    ones = repeated("00001", many * slots_of(q))
    return reduced_slots(PRIMES[q], folded_powers(q, number, many), ones, most)


def unpacked(q, number, many):
    """The list of the `many` coefficients that a packed integer holds."""
    p = PRIMES[q]
    size = slots_of(q)
    told = number
    if size > 1:
        # The digits of an element are put together in its lowest slot.
        lowest = repeated("00000" * (size - 1) + "0000f", many)
        middle = (number >> BITS) & lowest
        told = (number & lowest) + middle * p + ((number >> 2 * BITS) & lowest) * p * p
    text = f"{told:x}".zfill(many * size * WIDTH)
    return [DIGITS[digit] for digit in text[::-1][:many * size * WIDTH:size * WIDTH]]


def most_in_slots(many):
    """A bound of a slot to which `many` products of two elements are added."""
    # A slot of the product of two elements is at most 8 for q = 9, and 36 for q = 7.
    return 36 * many + 12


def packed_product(q, a, b):
    """The list of the coefficients of the product of two polynomials other than 0."""
    many = len(a) + len(b) - 1
    most = most_in_slots(min(len(a), len(b)))
    if POWERS[q] > 1:
        return told_planes(q, planes_product(planes_of(q, a), planes_of(q, b)), many, most)
    return unpacked(q, reduced(q, packed(q, a) * packed(q, b), many, most), many)


def planes_of(q, a):
    """The integers whose slots hold the coefficients of 1, of u and of u * u, as many as an element has digits."""
    return [int("0" + "".join([texts[x] for x in a[::-1]]), 16) for texts in PLANES[q]]


def planes_product(one, other):
    """The planes of the product, where the f-th power of u is u + 1."""
    if len(one) == 2:
        low = one[0] * other[0]
        both = (one[0] + one[1]) * (other[0] + other[1])
        return [low + one[1] * other[1], both - low]
    first, second, third = [x * y for x, y in zip(one, other)]
    u = (one[0] + one[1]) * (other[0] + other[1]) - first - second
    square = (one[0] + one[2]) * (other[0] + other[2]) - first - third + second
    cube = (one[1] + one[2]) * (other[1] + other[2]) - second - third
    return [first + cube, u + cube + third, square + third]


def told_planes(q, planes, many, most):
    """The list of the coefficients that these planes tell."""
    p = PRIMES[q]
    told = 0
    for plane in planes[::-1]:
        told = told * p + reduced(p, plane, many, most)
    return unpacked(p, told, many)

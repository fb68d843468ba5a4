"""Products of long polynomials by one product of integers.

Each coefficient is put into slots of its own of a long integer, one slot for each power of u that
occurs in a product of two elements. The slots are so wide that no sum of products runs over: such a
sum is at most 36 times the number of coefficients, which stays far below 16 ** 5 // 36.
"""

from monicsums.ground.tables import POWERS, PRIMES, PRODUCTS, SUMS

# How many hexadecimal digits a slot has.
WIDTH = 5


def slot_text(q, element):
    """The slots of an element as hexadecimal digits, that of the highest power of u first."""
    p = PRIMES[q]
    text = ""
    left = element
    for _ in range(2 * POWERS[q] - 1):
        digit = left % p
        text = f"{digit:05x}" + text
        left = left // p
    return text


def packed(q, a):
    """The integer whose slots hold the coefficients of a polynomial other than 0."""
    texts = [slot_text(q, element) for element in range(q)]
    return int("".join([texts[element] for element in a[::-1]]), 16)


def slot_element(q, text):
    """The element that the slots of one coefficient tell."""
    p = PRIMES[q]
    # The element u is p; for a prime q there is one slot, and nothing is multiplied.
    u = p % q
    made = 0
    for at in range(0, len(text), WIDTH):
        digit = int(text[at:at + WIDTH], 16) % p
        made = SUMS[q][PRODUCTS[q][made][u]][digit]
    return made


def unpacked(q, number, many):
    """The list of the first `many` coefficients that the slots of an integer tell."""
    size = WIDTH * (2 * POWERS[q] - 1)
    text = f"{number:x}".zfill(many * size)
    lots = [text[at:at + size] for at in range(len(text) - size, -1, -size)]
    if POWERS[q] == 1:
        return [int(lot, 16) % q for lot in lots]
    return [slot_element(q, lot) for lot in lots]


def packed_product(q, a, b):
    """The list of the coefficients of the product of two polynomials other than 0."""
    return unpacked(q, packed(q, a) * packed(q, b), len(a) + len(b) - 1)

"""Digits and carries, where nothing is checked."""

from monicsums.ground.tables import POWERS, PRIMES


def digit_row(b, k):
    """The list of the digits of k in base b, the lowest one first."""
    row = []
    left = k
    while left > 0:
        row.append(left % b)
        left = left // b
    return row


def row_integer(b, row):
    """The integer that has these digits in base b."""
    made = 0
    for digit in row[::-1]:
        made = made * b + digit
    return made


def digit_total(b, k):
    """The sum of the digits of k in base b."""
    return sum(digit_row(b, k))


def are_carry_free(b, numbers):
    """Whether the numbers have no carries in base b."""
    # Each carry takes b - 1 from the sum of the digits.
    return sum([digit_total(b, number) for number in numbers]) == digit_total(b, sum(numbers))


def is_within(b, i, j):
    """Whether i is digitwise within j in base b."""
    return i <= j and are_carry_free(b, (i, j - i))


def shift_sum_list(q, k):
    """The list of the digit sums in base q of k times p ** j, for j from 0 on."""
    return [digit_total(q, PRIMES[q] ** j * k) for j in range(0, 3)][:POWERS[q]]


def parts_bound(q, k):
    """The least of the shift sums divided by q - 1."""
    return min(shift_sum_list(q, k)) // (q - 1)

"""Digits of integers, and carries where they are added."""

from math import comb

from monicsums.digits.rows import are_carry_free, digit_row, digit_total, is_within, parts_bound, row_integer
from monicsums.digits.rows import shift_sum_list
from monicsums.errors import InvalidNumber, InvalidOperation, TooMany
from monicsums.ground.fields import check_field
from monicsums.ground.integers import check_between, check_from, is_between, is_from, is_integer

MOST_NUMBERS = 400
# How many integers that are digitwise within another one are listed at most.
MOST_WITHIN = 2000


def check_base(b):
    """Raise InvalidNumber unless b may be the base of digits."""
    check_between(b, 2, 1000)


def check_prime_base(p):
    """Raise InvalidNumber unless p is one of the primes over which there are fields."""
    if not is_integer(p) or p not in (2, 3, 5, 7):
        raise InvalidNumber(p)


def check_numbers(numbers):
    """Raise InvalidOperation unless the value is a tuple of one to 400 integers from 0 on."""
    if not isinstance(numbers, tuple) or not 1 <= len(numbers) <= MOST_NUMBERS:
        raise InvalidOperation("not a tuple of one to 400 integers")
    if not all([is_from(number, 0) for number in numbers]):
        raise InvalidOperation("not integers from 0 on")


def digits(b, k):
    """The digits of k in base b, the lowest one first."""
    check_base(b)
    check_from(k, 0)
    return tuple(digit_row(b, k))


def of_digits(b, row):
    """The integer that has these digits in base b."""
    check_base(b)
    if not isinstance(row, tuple) or len(row) > MOST_NUMBERS:
        raise InvalidOperation("not a tuple of at most 400 integers")
    if not all([is_between(digit, 0, b - 1) for digit in row]):
        raise InvalidOperation("not digits in this base")
    return row_integer(b, row)


def digit_sum(b, k):
    """The sum of the digits of k in base b."""
    check_base(b)
    check_from(k, 0)
    return digit_total(b, k)


def carries(b, i, j):
    """How many carries are 1 when i and j are added in base b."""
    check_base(b)
    check_from(i, 0)
    check_from(j, 0)
    return (digit_total(b, i) + digit_total(b, j) - digit_total(b, i + j)) // (b - 1)


def has_no_carries(b, numbers):
    """Whether the numbers have no carries in base b."""
    check_base(b)
    check_numbers(numbers)
    return are_carry_free(b, numbers)


def is_digitwise(b, i, j):
    """Whether i is digitwise within j in base b."""
    check_base(b)
    check_from(i, 0)
    check_from(j, 0)
    return is_within(b, i, j)


def digitwise(b, k):
    """The ascending tuple of all integers that are digitwise within k in base b."""
    check_base(b)
    check_from(k, 0)
    row = digit_row(b, k)
    many = 1
    for digit in row:
        many = many * (digit + 1)
    if many > MOST_WITHIN:
        raise TooMany(MOST_WITHIN)
    found = [0]
    worth = 1
    for digit in row:
        found = [number + times * worth for times in range(digit + 1) for number in found]
        worth = worth * b
    return tuple(found)


def choose_rest(p, n, k):
    """The rest modulo p of the number of choices of k out of n things."""
    check_prime_base(p)
    check_from(n, 0)
    check_from(k, 0)
    if not is_within(p, k, n):
        return 0
    made = 1
    for whole, part in zip(digit_row(p, n), digit_row(p, k)):
        made = made * comb(whole, part) % p
    return made


def multinomial_rest(p, numbers):
    """The rest modulo p of the number of ways to part things into lots of these sizes."""
    check_prime_base(p)
    check_numbers(numbers)
    return lots_rest(p, numbers)


def lots_rest(p, numbers):
    """The rest modulo p of the number of ways to part things into lots; nothing is checked."""
    made = 1
    placed = []
    for number in numbers:
        row = digit_row(p, number)
        placed = placed + [0] * (len(row) - len(placed))
        # Place by place the lots so far and this one are put together; where a digit runs over, there is a carry.
        for at, digit in enumerate(row):
            if digit > 0:
                placed[at] = placed[at] + digit
                if placed[at] >= p:
                    return 0
                made = made * comb(placed[at], digit) % p
    return made


def shift_sums(q, k):
    """The digit sums in base q of k times p ** j, for j from 0 to f - 1."""
    check_field(q)
    check_from(k, 0)
    return tuple(shift_sum_list(q, k))


def most_parts(q, k):
    """The least of the shift sums divided by q - 1."""
    check_field(q)
    check_from(k, 0)
    return parts_bound(q, k)

"""Integers that are passed, and powers of integers."""

from monicsums.errors import InvalidNumber

# 10 ** 60, the least integer that is too long to be passed.
TOO_LONG = 1000000000000000000000000000000000000000000000000000000000000


def is_integer(value):
    """Whether the value is an integer of at most 60 digits; True and False are none."""
    return isinstance(value, int) and not isinstance(value, bool) and -TOO_LONG < value < TOO_LONG


def is_from(value, low):
    """Whether the value is an integer from low on."""
    return is_integer(value) and value >= low


def is_between(value, low, high):
    """Whether the value is an integer from low to high."""
    return is_integer(value) and low <= value <= high


def check_from(value, low):
    """Raise InvalidNumber unless the value is an integer from low on."""
    if not is_from(value, low):
        raise InvalidNumber(value)


def check_between(value, low, high):
    """Raise InvalidNumber unless the value is an integer from low to high."""
    if not is_between(value, low, high):
        raise InvalidNumber(value)


def check_d(d):
    """Raise InvalidNumber unless d may be the degree of the polynomials that a sum is over."""
    check_between(d, 0, 300)


def whole_power(base, exponent):
    """The integer base to the power exponent, which is from 0 on."""
    made = 1
    for _ in range(exponent):
        made = made * base
    return made

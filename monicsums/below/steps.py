"""The degrees of sums of reciprocals, told by digits; nothing is checked."""

from monicsums.ground.tables import PRIMES


def longer_residues(q, least, worth, most):
    """The least integers above 0 for each rest modulo q - 1, with one more digit of at most `most`.

    The dict `least` has them for the digits below, whose place is worth less.
    """
    found = dict(least)
    for times in range(1, most + 1):
        # With a lower digit here each integer is less, and with the least lower part among them.
        for lower in [0] + sorted([least[rest] for rest in least]):
            number = times * worth + lower
            if number % (q - 1) not in found:
                found[number % (q - 1)] = number
    return found


def least_multiple_beside(q, k):
    """The least multiple of q - 1 above 0 that can be added to k without carries in base p."""
    p = PRIMES[q]
    least = {}
    left = k
    worth = 1
    while 0 not in least:
        least = longer_residues(q, least, worth, p - 1 - left % p)
        left = left // p
        worth = worth * p
    return least[0]


def first_step_of(q, k):
    """k and the least multiple of q - 1 above 0 that can be added to k - 1 without carries in base p."""
    return k + least_multiple_beside(q, k - 1)


def steps_degree(q, d, k):
    """The degree of the bottom of S(d, -k) less that of its top over a prime field, by d steps."""
    total = 0
    step = k
    for _ in range(d):
        step = first_step_of(q, step)
        total = total + step
    return total

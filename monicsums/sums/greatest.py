"""Greatest partings, told by digits alone; nothing is checked."""

from monicsums.digits.rows import digit_row, row_integer
from monicsums.ground.rows import trimmed
from monicsums.ground.tables import PRIMES
from monicsums.sums.classes import WEIGHTS


def spare_sums(q, row, many):
    """The list of the shift sums of the integer with the digits `row` in base p, each less (q - 1) * many."""
    classes = WEIGHTS[q]
    spare = [-(q - 1) * many for _ in classes]
    for at, digit in enumerate(row):
        spare = [part + digit * weight for part, weight in zip(spare, classes[at % len(classes)])]
    return spare


def less_digit(spare, weights, digit):
    """What is left of spare shift sums where a digit with these weights is taken away."""
    return [many - digit * weight for many, weight in zip(spare, weights)]


def lowered(q, row, spare):
    """The digits of the least integer, digitwise within that with the digits `row`, that spares nothing.

    No shift sum falls by more than its spare. Returns the digits and what is still spared.
    """
    classes = WEIGHTS[q]
    kept = list(row)
    at = len(kept) - 1
    # An integer with shift sums of at least n * (q - 1) has within it a sum of n multiples of q - 1 [5.3].
    # So the least such sum takes as little as it can at each place, from the highest one on.
    while min(spare) > 0:
        weights = classes[at % len(classes)]
        cut = min([kept[at]] + [many // weight for many, weight in zip(spare, weights)])
        kept[at] = kept[at] - cut
        spare = less_digit(spare, weights, cut)
        at -= 1
    return trimmed(kept), spare


def least_sums(q, d, k):
    """The list of the integers that the members of the greatest parting of k for d add up to.

    The first one is the sum of the members ahead of the last one, the next one that of all but the last
    two, and so on: each is the least one that can be parted so, within the one ahead. There is a parting.
    """
    p = PRIMES[q]
    row = digit_row(p, k)
    spare = spare_sums(q, row, d)
    found = []
    for _ in range(d):
        row, spare = lowered(q, row, spare)
        found.append(row_integer(p, row))
        spare = [many + q - 1 for many in spare]
    return found


def greatest_members(q, d, k):
    """The greatest parting of k for d as a tuple; there is a parting."""
    sums = [k] + least_sums(q, d, k) + [0]
    members = [sums[at] - sums[at + 1] for at in range(d + 1)]
    return tuple(members[::-1])


def members_exponent(members):
    """The sum of the members, each times its index."""
    return sum([at * member for at, member in enumerate(members)])

"""Greatest partings, told by digits alone; nothing is checked.

The digits that are not 0 are held as a list from the highest place on, of triples of a digit, of what 1 at this place
adds to the shift sums, and of the worth of the place.
"""

from math import comb

from monicsums.digits.rows import digit_row
from monicsums.ground.tables import PRIMES
from monicsums.sums.classes import WEIGHTS


def spare_sums(q, row, many):
    """The list of the shift sums of the integer with the digits `row` in base p, each less (q - 1) * many."""
    classes = WEIGHTS[q]
    shares = [sum(row[t::len(classes)]) for t in range(len(classes))]
    return [
        sum([share * weights[j] for share, weights in zip(shares, classes)]) - (q - 1) * many
        for j in range(len(classes))
    ]


def less_digit(spare, weights, digit):
    """What is left of spare shift sums where a digit with these weights is taken away."""
    return [many - digit * weight for many, weight in zip(spare, weights)]


def high_digits(q, row):
    """The digits `row` in base p as triples from the highest place on."""
    classes = WEIGHTS[q]
    found = []
    worth = 1
    for at, digit in enumerate(row):
        if digit > 0:
            found.append((digit, classes[at % len(classes)], worth))
        worth = worth * PRIMES[q]
    return found[::-1]


def lowered(triples, spare):
    """The digits of the least integer, digitwise within that with these digits, that spares nothing.

    No shift sum falls by more than its spare. Returns the digits, what is still spared, what is taken away, and the
    binomial of the integer over what is taken away, up to multiples of p.
    """
    kept = []
    taken = 0
    many = 1
    at = 0
    # An integer with shift sums of at least n * (q - 1) has within it a sum of n multiples of q - 1 [5.3].
    # So the least such sum takes as little as it can at each place, from the highest one on.
    while at < len(triples) and min(spare) > 0:
        digit, weights, worth = triples[at]
        cut = min([digit] + [most // weight for most, weight in zip(spare, weights)])
        if cut < digit:
            kept.append((digit - cut, weights, worth))
            many = many * comb(digit, cut)
        taken = taken + cut * worth
        spare = less_digit(spare, weights, cut)
        at += 1
    return kept + triples[at:], spare, taken, many


def least_sums(q, d, k):
    """The list of the integers that the members of the greatest parting of k for d add up to.

    The first one is the sum of the members ahead of the last one, the next one that of all but the last
    two, and so on: each is the least one that can be parted so, within the one ahead. There is a parting.
    """
    row = digit_row(PRIMES[q], k)
    triples = high_digits(q, row)
    spare = spare_sums(q, row, d)
    left = k
    found = []
    for _ in range(d):
        triples, spare, taken, _ = lowered(triples, spare)
        left = left - taken
        found.append(left)
        spare = [many + q - 1 for many in spare]
    return found


def greatest_members(q, d, k):
    """The greatest parting of k for d as a tuple; there is a parting."""
    sums = [k] + least_sums(q, d, k) + [0]
    members = [sums[at] - sums[at + 1] for at in range(d + 1)]
    return tuple(members[::-1])


def members_exponent(members):
    """The sum of the members, each times its index."""
    return sum([at * member for at, member in enumerate(members)])

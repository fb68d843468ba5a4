"""S(d, k) for all d at once, by those for less degrees; nothing is checked.

A monic polynomial of degree d is T a + c with a monic a of degree d - 1 and an element c. The sum of the j-th powers
of all elements is -1 if j is a multiple of q - 1 above 0, and 0 otherwise. So S(d, k) is the opposite of the sum of
the binomial of k over i, times T ** i S(d - 1, i), over all i below k for which q - 1 divides k - i. All coefficients
lie in the prime field. The polynomials are held as integers with a slot for each coefficient.
"""

from math import comb

from monicsums.digits.rows import parts_bound
from monicsums.ground.rows import trimmed
from monicsums.ground.tables import PRIMES

# How many bits a slot has for an odd p: for k up to 300 no slot is ever as great as 2 ** 40.
BITS = 40
WIDTH = 10


def within_class(q, k):
    """The list of all integers digitwise within k in base p whose difference from k is a multiple of q - 1."""
    return [i for i in range(k % (q - 1), k + 1, q - 1) if comb(k, i) % PRIMES[q] != 0]


def lower_terms(q, numbers, i):
    """The list of the pairs of a number j below i and of the opposite of the binomial, where that is not 0."""
    p = PRIMES[q]
    pairs = [(j, -comb(i, j) % p) for j in numbers if j < i]
    return [(j, factor) for j, factor in pairs if factor != 0]


def gathered(p, terms, level):
    """The sum of the sums of the level, each times its factor and T to the power of its number."""
    total = 0
    if p == 2:
        for j, _ in terms:
            if j in level:
                total = total ^ (level[j] << j)
        return total
    for j, factor in terms:
        if j in level:
            total = total + ((level[j] * factor) << BITS * j)
    return total


def slots_row(p, number):
    """The polynomial whose coefficients the slots of an integer tell."""
    if p == 2:
        return tuple([1 if digit == "1" else 0 for digit in f"{number:b}"[::-1]])
    text = f"{number:x}"
    many = len(text) // WIDTH + 1
    text = text.zfill(many * WIDTH)
    return trimmed([int(text[at:at + WIDTH], 16) % p for at in range(len(text) - WIDTH, -1, -WIDTH)])


def sum_rows(q, k, most):
    """The list of S(d, k) for d from 0 on, as long as it is not 0 and d is at most `most`; k is at most 300."""
    p = PRIMES[q]
    numbers = within_class(q, k)
    bounds = {i: parts_bound(q, i) for i in numbers}
    terms = {i: lower_terms(q, numbers, i) for i in numbers if bounds[i] > 0}
    level = {i: 1 for i in numbers}
    found = [(1,)]
    for d in range(1, min(bounds[k], most) + 1):
        level = {i: gathered(p, terms[i], level) for i in numbers if bounds[i] >= d}
        found.append(slots_row(p, level[k]))
    return found

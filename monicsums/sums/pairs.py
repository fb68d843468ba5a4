"""The exponents and the numbers of greatest partings for many d at once, told by digits; nothing is checked.

With s(j) for the sum of the first j members, the exponent is d * k less s(1) + .. + s(d), and the number is the product
of the binomials of s(j + 1) over s(j) and of k over s(d). Each s(j) is the least integer within s(j + 1) that can be
parted so. Over a prime field it takes the lowest digits of k, whatever d is. Else it may hang on d, but the same s(j)
comes up for most d again.
"""

from math import comb

from monicsums.digits.rows import digit_row
from monicsums.ground.tables import POWERS, PRIMES
from monicsums.sums.greatest import high_digits, less_digit, lowered, spare_sums


def prime_pairs(q, k):
    """The list of the pairs (exponent, number) for all d, over a prime field."""
    pairs = [(0, 1)]
    total = 0
    sums = 0
    number = 1
    room = q - 1
    worth = 1
    for digit in digit_row(q, k):
        used = 0
        # A member ends each time its digits add up to q - 1.
        while digit - used >= room:
            used = used + room
            number = number * comb(used, room) % q
            total = total + room * worth
            sums = sums + total
            pairs.append((len(pairs) * k - sums, number * comb(digit, used) % q))
            room = q - 1
        number = number * comb(digit, used) % q
        total = total + (digit - used) * worth
        room = room - (digit - used)
        worth = worth * q
    return pairs


def summed_chain(q, known, state, many, total):
    """The pair of s(1) + .. + s(many) and of the number of the members of s(many), which is the total.

    The state has the digits of the total and what is spared; what is found on the way is kept in the dict.
    """
    triples, spare = state
    waiting = []
    while many > 1 and (many, total) not in known:
        triples, spare, taken, number = lowered(triples, [part + q - 1 for part in spare])
        waiting.append((many, total, number))
        many -= 1
        total = total - taken
    sums, made = known.get((many, total), (total, 1))
    for step, whole, number in waiting[::-1]:
        sums = sums + whole
        made = made * number % PRIMES[q]
        known[step, whole] = (sums, made)
    return sums, made


def chain_pair(q, known, state, d, k):
    """The pair (exponent, number) for d from 1 on; the state has digits that k has left, and what is spared."""
    triples, spare = state
    triples, spare, taken, number = lowered(triples, spare)
    whole = sum([digit * worth for digit, _, worth in triples])
    sums, made = summed_chain(q, known, (triples, spare), d, whole)
    return d * k - sums, made * number % PRIMES[q]


def chain_pairs(q, k, most):
    """The list of the pairs (exponent, number) for d from 0 to `most`, the greatest d."""
    row = digit_row(PRIMES[q], k)
    triples = high_digits(q, row)
    known = {}
    found = []
    spare = spare_sums(q, row, most)
    for d in range(most, 0, -1):
        # What is taken away whole for some d is so for all less ones, too.
        while len(triples) > 0 and min(less_digit(spare, triples[0][1], triples[0][0])) >= 0:
            spare = less_digit(spare, triples[0][1], triples[0][0])
            triples = triples[1:]
        found.append(chain_pair(q, known, (triples, spare), d, k))
        spare = [part + q - 1 for part in spare]
    return [(0, 1)] + found[::-1]


def told_pairs(q, k, most):
    """The list of the pairs (exponent, number) of the greatest partings of k for d from 0 to `most`, the greatest d."""
    if POWERS[q] == 1:
        return prime_pairs(q, k)
    return chain_pairs(q, k, most)


def told_pair(q, d, k):
    """The exponent and the number of the greatest parting of k for d, of which there is one."""
    if POWERS[q] == 1:
        return prime_pairs(q, k)[d]
    if d == 0:
        return 0, 1
    row = digit_row(PRIMES[q], k)
    return chain_pair(q, {}, (high_digits(q, row), spare_sums(q, row, d)), d, k)

"""Products of nested sums, and of low sums, as sums of such sums by the told rules; nothing is checked.

A sum of nested sums, or of low sums, is a dict from rows to elements from 1 to p - 1. What is found for the products of
two rows as low sums is kept in a dict, as it comes up again.
"""

from math import comb

from monicsums.ground.tables import PRIMES


def term_pairs(q, i, j):
    """The list of the pairs (t, c(t)), c(t) not 0, by which S(d, -i) S(d, -j) is more than S(d, -i - j)."""
    found = []
    for t in range(q - 1, i + j, q - 1):
        one = comb(t - 1, i - 1) if i % 2 == 1 else -comb(t - 1, i - 1)
        other = comb(t - 1, j - 1) if j % 2 == 1 else -comb(t - 1, j - 1)
        element = (one + other) % PRIMES[q]
        if element != 0:
            found.append((t, element))
    return found


def added_rows(p, parts):
    """The sum of the dicts of pairs (factor, dict), each times its factor; rows with 0 are left out."""
    total = {}
    for factor, rows in parts:
        for row in rows:
            total[row] = (total.get(row, 0) + factor * rows[row]) % p
    return {row: total[row] for row in sorted(total) if total[row] != 0}


def behind(member, rows):
    """The rows with one more member ahead."""
    return {(member,) + row: rows[row] for row in rows}


def low_product(q, known, one, other):
    """The product of the low sums of two rows; that of the empty row is 1."""
    if len(one) == 0 or len(other) == 0:
        return {one + other: 1}
    # The rows can be exchanged.
    pair = (min(one, other), max(one, other))
    if pair not in known:
        known[pair] = added_rows(PRIMES[q], [
            (1, behind(one[0], low_product(q, known, one[1:], other))),
            (1, behind(other[0], low_product(q, known, one, other[1:]))),
            (1, nested_product(q, known, one, other)),
        ])
    return known[pair]


def low_times_rows(q, known, t, rows):
    """The product of the low sum of the row (t,) and of a sum of low sums."""
    return added_rows(PRIMES[q], [(rows[row], low_product(q, known, (t,), row)) for row in rows])


def nested_product(q, known, one, other):
    """The product of the nested sums of two rows; the same rows stand for low sums where all d are added up."""
    lower = low_product(q, known, one[1:], other[1:])
    whole = one[0] + other[0]
    parts = [(1, behind(whole, lower))]
    for t, element in term_pairs(q, one[0], other[0]):
        parts.append((element, behind(whole - t, low_times_rows(q, known, t, lower))))
    return added_rows(PRIMES[q], parts)

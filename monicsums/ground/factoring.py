"""Primes, and polynomials as products of primes; nothing is checked."""

from monicsums.ground.integers import whole_power
from monicsums.ground.rows import row_common_divisor, row_divided, row_less, row_less_scaled, row_power_rest
from monicsums.ground.rows import row_prime_root, row_product, trimmed
from monicsums.ground.tables import INVERSES, PRIMES, PRODUCTS


def slope(q, a):
    """The derivative of a."""
    p = PRIMES[q]
    return trimmed([PRODUCTS[q][at % p][element] for at, element in enumerate(a)][1:])


def moved_rows(q, a):
    """For each i below the degree of a: the rest of T ** (q * i) modulo a, less T ** i."""
    step = row_power_rest(q, (0, 1), q, a)
    made = (1,)
    rows = []
    for at in range(len(a) - 1):
        rows.append(row_less(q, made, (0,) * at + (1,)))
        made = row_divided(q, row_product(q, made, step), a)[1]
    return rows


def cleared(q, pivots, row, mark):
    """A row less multiples of the rows in pivots, which are kept by their lengths, and its mark likewise."""
    while len(row) in pivots:
        other, sign = pivots[len(row)]
        element = PRODUCTS[q][row[-1]][INVERSES[q][other[-1]]]
        row = row_less_scaled(q, row, element, other)
        mark = row_less_scaled(q, mark, element, sign)
    return row, mark


def kept_rests(q, a):
    """A basis of the rests modulo a that are their own q-th powers."""
    pivots = {}
    found = []
    for at, row in enumerate(moved_rows(q, a)):
        left, mark = cleared(q, pivots, row, (0,) * at + (1,))
        if len(left) > 0:
            pivots[len(left)] = (left, mark)
        else:
            found.append(mark)
    return found


def parts_by(q, a, rest):
    """The common divisors of a with the rest less each element, those of degree 0 left out."""
    found = []
    for element in range(q):
        part = row_common_divisor(q, a, row_less(q, rest, trimmed([element])))
        if len(part) > 1:
            found.append(part)
    return found


def unlike_primes(q, a):
    """The list of the primes whose product is a, monic of degree at least 1, each one once."""
    basis = kept_rests(q, a)
    parts = [a]
    # A rest that is its own q-th power is an element modulo each prime, and each two primes are told
    # apart by some member of the basis. There are as many primes as members.
    for rest in basis:
        if len(parts) < len(basis):
            parts = [part for whole in parts for part in parts_by(q, whole, rest)]
    return parts


def is_prime_row(q, a):
    """Whether a monic polynomial is a prime."""
    if len(a) < 2 or len(row_common_divisor(q, a, slope(q, a))) > 1:
        return False
    return len(kept_rests(q, a)) == 1


def prime_times(q, a):
    """The dict that tells how often each prime divides a monic polynomial."""
    times = {}
    waiting = [(a, 1)]
    while len(waiting) > 0:
        part, many = waiting.pop()
        turn = slope(q, part)
        shared = row_common_divisor(q, part, turn)
        if len(part) > 1 and len(turn) == 0:
            waiting.append((row_prime_root(q, part), many * PRIMES[q]))
        elif len(shared) > 1:
            waiting.append((shared, many))
            waiting.append((row_divided(q, part, shared)[0], many))
        elif len(part) > 1:
            for prime in unlike_primes(q, part):
                times[prime] = times.get(prime, 0) + many
    return times


def count_primes(q, h):
    """How many primes of degree h there are."""
    counts = {}
    # The sum of n times the number of primes of degree n, over all n that divide h, is q ** h.
    for n in range(1, h + 1):
        if h % n == 0:
            others = sum([i * counts[i] for i in counts if n % i == 0])
            counts[n] = (whole_power(q, n) - others) // n
    return counts[h]

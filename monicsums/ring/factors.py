"""The factors F_m of the polynomials C_m(x) in x, and their values; nothing is checked.

C_m(x) is the product of F_n(x) over all monic n that divide m. So F_m(x) is a product of C_{m/n}(x), or of its inverse,
over all products n of unlike primes that divide m. In powers of y = 1 / x ** (q - 1) each C_{m/n} is a power of x times
a series with few terms that begins with 1, whose coefficient at y ** j has at most the degree j.
"""

from monicsums.ground.integers import whole_power
from monicsums.ground.packing import most_in_slots, packed, reduced, unpacked
from monicsums.ground.rows import row_divided, row_opposite, row_product, row_scaled, row_sum, trimmed
from monicsums.ring.actions import acted, coefficient_list


def units_of(q, times):
    """The number of units modulo the product of primes, as often as the dict tells."""
    made = 1
    for prime in times:
        size = whole_power(q, len(prime) - 1)
        made = made * (size - 1) * whole_power(size, times[prime] - 1)
    return made


def signed_quotients(q, m, times):
    """The list of the pairs (m divided by n, sign) over all products n of unlike primes that divide m."""
    pairs = [(m, 1)]
    for prime in times:
        pairs = pairs + [(row_divided(q, a, prime)[0], -sign) for a, sign in pairs]
    return pairs


def series_terms(q, a, most):
    """The list of the pairs (j, packed coefficient at y ** j) of the series of C_a behind 1, for j up to `most`."""
    size = whole_power(q, len(a) - 1)
    found = []
    for i, part in enumerate(coefficient_list(q, a, len(a) - 1)):
        place = (size - whole_power(q, i)) // (q - 1)
        if place <= most:
            found.append((place, part))
    return found


def times_series(q, terms, series):
    """The product of a series, a list of packed coefficients, and of 1 with the terms."""
    factors = [(place, packed(q, part)) for place, part in terms]
    found = []
    for j, total in enumerate(series):
        for place, part in factors:
            if place <= j:
                total = total + series[j - place] * part
        found.append(reduced(q, total, j + 1, most_in_slots(len(terms) * (j + 1))))
    return found


def over_series(q, terms, series):
    """A series, a list of packed coefficients, divided by 1 with the terms."""
    factors = [(place, packed(q, row_opposite(q, part))) for place, part in terms]
    found = []
    for j, total in enumerate(series):
        for place, part in factors:
            if place <= j:
                total = total + found[j - place] * part
        found.append(reduced(q, total, j + 1, most_in_slots(len(terms) * (j + 1))))
    return found


def factor_list(q, m, times):
    """The list of the coefficients of F_m; the dict tells how often each prime divides m."""
    if len(m) == 1:
        return [(), (1,)]
    step = q - 1
    most = units_of(q, times) // step
    series = [1] + [0 for _ in range(most)]
    for a, sign in signed_quotients(q, m, times):
        terms = series_terms(q, a, most)
        series = times_series(q, terms, series) if sign == 1 else over_series(q, terms, series)
    found = [() for _ in range(most * step + 1)]
    for j, number in enumerate(series):
        found[(most - j) * step] = trimmed(unpacked(q, number, j + 1))
    return found


def action_value(q, a, u):
    """C_a(u)."""
    total = ()
    made = u
    for at, element in enumerate(a):
        if at > 0:
            made = acted(q, made)
        total = row_sum(q, total, row_scaled(q, element, made))
    return total


def value_by_primes(q, primes, u):
    """F_m(u) for the product m of a list of primes, like ones side by side, where no value on the way is 0."""
    if len(primes) == 0:
        return u
    ahead = primes[:-1]
    # F_{m P}(x) is F_m(C_P(x)), divided by F_m(x) if the prime P does not divide m.
    made = value_by_primes(q, ahead, action_value(q, primes[-1], u))
    if len(ahead) > 0 and ahead[-1] == primes[-1]:
        return made
    return row_divided(q, made, value_by_primes(q, ahead, u))[0]


def is_turned_round(q, u):
    """Whether C takes u to few polynomials alone: to 0, or for q = 2 to others of a degree of at most 1."""
    return len(u) == 0 or (q == 2 and len(u) < 3)


def value_degree(q, times, u):
    """The degree of F_m(u) where C takes u to longer and longer polynomials."""
    units = units_of(q, times)
    if len(u) > 1:
        return units * (len(u) - 1)
    # C_a(u) has degree q ** (d - 1) for a of degree d from 1 on, and is an element for d = 0.
    unlike = all([times[prime] == 1 for prime in times])
    if not unlike:
        return units // q
    return (units - 1) // q if len(times) % 2 == 0 else (units + 1) // q


def factor_value(q, m, times, u):
    """F_m(u), which is not too long."""
    if not is_turned_round(q, u):
        lengths = sorted([(len(prime), prime) for prime in times])
        primes = [prime for _, prime in lengths for _ in range(times[prime])]
        return value_by_primes(q, primes, u)
    total = ()
    for part in factor_list(q, m, times)[::-1]:
        total = row_sum(q, row_product(q, total, u), part)
    return total

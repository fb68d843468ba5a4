"""The coefficients of x / exp(x) modulo a prime; nothing is checked."""

from monicsums.ground.integers import whole_power
from monicsums.ground.rows import row_divided, row_opposite, row_power_rest, row_product, row_sum
from monicsums.sums.plain import product_of_all


def inverse_rests(q, prime):
    """The list of the pairs (q ** i - 1, -1 / D(i) modulo the prime) for all i from 1 on below its degree."""
    h = len(prime) - 1
    found = []
    for i in range(1, h):
        inverse = row_power_rest(q, product_of_all(q, i), whole_power(q, h) - 2, prime)
        found.append((whole_power(q, i) - 1, row_opposite(q, inverse)))
    return found


def coefficient_rests(q, prime, most):
    """The list of the rests of the coefficients of x / exp(x) at x ** (j * (q - 1)), for numbers up to `most`.

    The numbers stay below the size of the prime less 1, so it divides none of the D(i) that come in.
    """
    steps = inverse_rests(q, prime)
    found = [(1,)]
    for j in range(1, most // (q - 1) + 1):
        total = ()
        for step, factor in steps:
            back = step // (q - 1)
            if back <= j:
                total = row_sum(q, total, row_product(q, factor, found[j - back]))
        found.append(row_divided(q, total, prime)[1])
    return found


def irregular_list(q, prime):
    """The ascending list of the numbers of the range of the prime at which it divides the top of B(k)."""
    size = whole_power(q, len(prime) - 1)
    rests = coefficient_rests(q, prime, size - q)
    # The prime divides no factorial of these numbers, and no bottom.
    return [j * (q - 1) for j in range(1, len(rests)) if len(rests[j]) == 0]

"""Symbols of powers: which polynomials are powers modulo a prime, told by three roads."""

from monicsums.errors import InvalidNumber, InvalidOperation, TooMany
from monicsums.ground.fields import repeated_product
from monicsums.ground.integers import is_from, whole_power
from monicsums.ground.polys import check_monic, check_polynomial, check_prime
from monicsums.ground.rows import is_row_over, row_divided, row_monics, row_product, row_scaled
from monicsums.ground.tables import INVERSES, PRODUCTS
from monicsums.series.turns import found_steps, stepped, symbol_of

MAX_LOTS = 729
MAX_STEPS = 1300


def check_symbol(q, a, m):
    """Raise an error unless there is a symbol of a over m."""
    check_polynomial(q, a)
    check_monic(q, m)


def check_lots(q, prime):
    """Raise TooMany if there are too many rests modulo the prime."""
    if whole_power(q, len(prime) - 1) > MAX_LOTS:
        raise TooMany(MAX_LOTS)


def symbol(q, a, m):
    """The symbol (a / m)."""
    check_symbol(q, a, m)
    return symbol_of(q, a, m)


def symbol_by_lots(q, a, prime):
    """The symbol (a / prime), by the last coefficients of the rests of a times all monic polynomials."""
    check_polynomial(q, a)
    check_prime(q, prime)
    check_lots(q, prime)
    rest = row_divided(q, a, prime)[1]
    if len(rest) == 0:
        return 0
    made = 1
    for d in range(len(prime) - 1):
        for b in row_monics(q, d):
            lot = row_divided(q, row_product(q, rest, b), prime)[1]
            made = PRODUCTS[q][made][lot[-1]]
    return made


def symbol_steps(q, a, m):
    """Complete steps for a and m."""
    check_symbol(q, a, m)
    return tuple(found_steps(q, a, m))


def symbol_behind(q, a, m, steps):
    """The symbol that the steps tell, None if they are not complete steps; nothing else is checked."""
    if not isinstance(steps, tuple) or len(steps) > MAX_STEPS:
        return None
    state = (a, m, 1)
    for step in steps:
        state = stepped(q, state, step)
        if state is None:
            return None
    left, modulus, made = state
    if len(modulus) == 1:
        return made
    return 0 if len(left) == 0 else None


def is_symbol_steps(q, a, m, value):
    """Whether the value is complete steps for a and m."""
    check_symbol(q, a, m)
    return symbol_behind(q, a, m, value) is not None


def symbol_by_steps(q, a, m, steps):
    """The symbol (a / m) by complete steps."""
    check_symbol(q, a, m)
    made = symbol_behind(q, a, m, steps)
    if made is None:
        raise InvalidOperation("not complete steps")
    return made


def check_root(q, a, prime, e):
    """Raise an error unless roots of a modulo the prime with the exponent e are told."""
    check_polynomial(q, a)
    check_prime(q, prime)
    if not is_from(e, 1) or (q - 1) % e != 0:
        raise InvalidNumber(e)
    check_lots(q, prime)


def low_power_rest(q, b, e, prime):
    """The rest of b ** e modulo the prime, for b of a lower degree and few factors."""
    made = b
    for _ in range(e - 1):
        made = row_divided(q, row_product(q, made, b), prime)[1]
    return made


def power_root(q, a, prime, e):
    """A polynomial of lower degree than the prime whose e-th power is a modulo the prime, None if there is none."""
    check_root(q, a, prime, e)
    rest = row_divided(q, a, prime)[1]
    if len(rest) == 0:
        return ()
    if repeated_product(q, symbol_of(q, rest, prime), (q - 1) // e) != 1:
        return None
    roots = {repeated_product(q, element, e): element for element in range(1, q)}
    # The elements have few powers, so the monic polynomials are enough to look through.
    for d in range(len(prime) - 1):
        for b in row_monics(q, d):
            made = low_power_rest(q, b, e, prime)
            factor = PRODUCTS[q][rest[-1]][INVERSES[q][made[-1]]]
            if factor in roots and row_scaled(q, factor, made) == rest:
                return row_scaled(q, roots[factor], b)
    return None


def is_power_root(q, a, prime, e, value):
    """Whether the value is a polynomial of lower degree than the prime whose e-th power is a modulo the prime."""
    check_root(q, a, prime, e)
    if not is_row_over(q, value, len(prime) - 2):
        return False
    return low_power_rest(q, value, e, prime) == row_divided(q, a, prime)[1]

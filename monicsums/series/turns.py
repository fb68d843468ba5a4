"""Symbols of powers by rests and turns, as common divisors are found; nothing is checked.

(a / m) for an m that is not monic is that for the monic polynomial which is an element times m.
"""

from monicsums.ground.chains import rest_chain
from monicsums.ground.fields import repeated_product
from monicsums.ground.integers import is_between
from monicsums.ground.polys import MAX_DEGREE
from monicsums.ground.rows import is_row_over, row_divided, row_less, row_scaled
from monicsums.ground.tables import INVERSES, OPPOSITES, PRODUCTS


def turn_factor(q, one, other):
    """The element by which (other / one) is (one / other) times it; both are not 0."""
    products = PRODUCTS[q]
    # The symbol of an element is its power with the degree below; what is left are turns of monic polynomials.
    high = repeated_product(q, other[-1], len(one) - 1)
    low = repeated_product(q, INVERSES[q][one[-1]], len(other) - 1)
    made = products[high][low]
    if len(one) % 2 == 0 and len(other) % 2 == 0:
        return OPPOSITES[q][made]
    return made


def symbol_of(q, a, m):
    """The symbol (a / m), m being monic."""
    rests = rest_chain(q, m, row_divided(q, a, m)[1])
    if len(rests[-1]) > 1:
        return 0
    made = 1
    for one, other in zip(rests, rests[1:]):
        made = PRODUCTS[q][made][turn_factor(q, one, other)]
    return made


def found_steps(q, a, m):
    """The list of complete steps for a and m."""
    if len(m) == 1 or len(a) == 0:
        return []
    rest = row_divided(q, a, m)[1]
    steps = [("rest", rest)] if len(a) >= len(m) else []
    rests = rest_chain(q, m, rest) + [()]
    # Behind each turn a and m are two neighbours among the rests, made monic. So what stands there next is the rest
    # behind them, divided by the last coefficient of the first one.
    leads = [1] + [row[-1] for row in rests[:-1]]
    for at in range(1, len(rests) - 1):
        element = PRODUCTS[q][leads[at + 1]][INVERSES[q][leads[at - 1]]]
        if element != 1:
            steps.append(("element", element))
        steps.append(("turn",))
        if len(rests[at]) > 1:
            steps.append(("rest", row_scaled(q, INVERSES[q][leads[at]], rests[at + 1])))
    return steps


def stepped(q, state, step):
    """The triple of a, m and s behind one more step, None if it cannot be done; the step is any value."""
    a, m, made = state
    if not isinstance(step, tuple):
        return None
    if step == ("turn",):
        if a[-1:] != (1,):
            return None
        return m, a, PRODUCTS[q][made][turn_factor(q, m, a)]
    if len(step) != 2:
        return None
    word, told = step
    if word == "rest" and is_row_over(q, told, MAX_DEGREE):
        if len(row_divided(q, row_less(q, a, told), m)[1]) == 0:
            return told, m, made
    if word == "element" and is_between(told, 1, q - 1):
        factor = repeated_product(q, told, len(m) - 1)
        return row_scaled(q, INVERSES[q][told], a), m, PRODUCTS[q][made][factor]
    return None

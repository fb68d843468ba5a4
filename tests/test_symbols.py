"""monicsums.series.symbols: the points 15.1 to 15.6."""

import unittest

from monicsums import errors
from monicsums.ground import polys
from monicsums.ground.chains import rest_chain
from monicsums.ground.fields import element_power, element_product
from monicsums.ground.rows import row_divided
from monicsums.series import symbols
from tests.support import FIELDS, LONGEST, NESTED, TOO_LONG, Case, Numbers, minus, no_monics, no_polynomials
from tests.support import no_primes, slow_below, slow_power, slow_times, some_primes

ONE = (1,)
T = (0, 1)
TURN = ("turn",)


def by_power(q, a, prime):
    """The symbol over a prime, by its power."""
    rest = polys.power_rest(q, a, (q ** (len(prime) - 1) - 1) // (q - 1), prime)
    assert len(rest) < 2
    return rest[0] if rest else 0


def by_primes(q, a, m):
    """The symbol over a monic polynomial, by its primes."""
    made = 1
    for prime, times in polys.factors(q, m)[1]:
        for _ in range(times):
            made = element_product(q, made, by_power(q, a, prime))
    return made


def some_monics(q, numbers, many, most=9):
    return [numbers.monic(q, numbers.below(most + 1)) for _ in range(many)]


def powers_of(q, prime, e):
    """The dict from all rests modulo a prime to their e-th powers, one by one."""
    below = slow_below(q, len(prime) - 1)
    return {b: row_divided(q, slow_power(q, b, e), prime)[1] for b in below}


class Symbols(Case):
    def test_examples(self):
        made = [
            symbols.symbol(3, (0, 1), (1, 1)), symbols.symbol(3, (1, 1), (0, 1)), symbols.symbol(5, (2,), (1, 0, 1)),
            symbols.symbol(3, (0, 2, 1), (0, 1, 1)), symbols.symbol_by_lots(3, (0, 1), (1, 0, 1)),
        ]
        self.assertEqual(made, [2, 1, 4, 0, 1])
        self.assertEqual((symbols.MAX_LOTS, symbols.MAX_STEPS), (729, 1300))

    def test_over_primes_by_three_roads(self):
        for q in FIELDS:
            numbers = Numbers(q)
            for h in range(1, 5):
                for prime in some_primes(q, h):
                    for _ in range(12):
                        a = numbers.polynomial(q, numbers.below(3 * h + 2) - 1)
                        made = symbols.symbol(q, a, prime)
                        self.assertEqual(made, by_power(q, a, prime))
                        self.assertIs(made == 0, row_divided(q, a, prime)[1] == ())
                        if q ** h <= 729:
                            self.assertEqual(made, symbols.symbol_by_lots(q, a, prime))

    def test_over_monics(self):
        for q in FIELDS:
            numbers = Numbers(10 + q)
            for m in some_monics(q, numbers, 25) + [ONE, T, (0, 0, 1), (0, 0, 0, 1), (0, 1, 1)]:
                for a in [(), ONE, T, m, slow_times(q, m, (1, 1))] + [numbers.polynomial(q, 6) for _ in range(4)]:
                    made = symbols.symbol(q, a, m)
                    self.assertEqual(made, by_primes(q, a, m))
                    shared = len(polys.common(q, a, m)[0]) > 1
                    self.assertIs(made == 0, shared)
                    if len(m) == 1:
                        self.assertEqual(made, 1)

    def test_rules(self):
        for q in FIELDS:
            numbers = Numbers(20 + q)
            for _ in range(20):
                m, n = numbers.monic(q, 1 + numbers.below(30)), numbers.monic(q, 1 + numbers.below(30))
                a, b = numbers.polynomial(q, numbers.below(40)), numbers.polynomial(q, numbers.below(40))
                both = element_product(q, symbols.symbol(q, a, m), symbols.symbol(q, b, m))
                self.assertEqual(symbols.symbol(q, polys.times(q, a, b), m), both)
                both = element_product(q, symbols.symbol(q, a, m), symbols.symbol(q, a, n))
                self.assertEqual(symbols.symbol(q, a, polys.times(q, m, n)), both)
                further = polys.added(q, a, polys.times(q, b, m))
                self.assertEqual(symbols.symbol(q, further, m), symbols.symbol(q, a, m))
                for c in range(1, q):
                    self.assertEqual(symbols.symbol(q, (c,), m), element_power(q, c, len(m) - 1))
                turned = symbols.symbol(q, n, m)
                if len(m) % 2 == 0 and len(n) % 2 == 0 and turned:
                    turned = minus(q, (turned,))[0]
                self.assertEqual(symbols.symbol(q, m, n), turned)

    def test_long_ones(self):
        for q in FIELDS:
            numbers = Numbers(30 + q)
            a, m = numbers.polynomial(q, 200), numbers.monic(q, 400)
            both = element_product(q, symbols.symbol(q, a, m), symbols.symbol(q, a, m))
            self.assertEqual(symbols.symbol(q, polys.times(q, a, a), m), both)
            # Each prime of degree at most 20 divides one of two neighbours at most.
            self.assertEqual(symbols.symbol(q, m, m), 0)
            self.assertNotEqual(symbols.symbol(q, polys.added(q, m, ONE), m), 0)
            # By the turns of long polynomials: T ** 400 + 1 leaves 1 modulo T.
            self.assertEqual(symbols.symbol(q, T, ONE + (0,) * 399 + ONE), 1)

    def test_rests(self):
        for q in FIELDS:
            numbers = Numbers(40 + q)
            for many, few in ((40, 39), (60, 20), (17, 3), (400, 399), (5, 2), (1, 0), (3, -1), (0, -1)):
                a, b = numbers.monic(q, many), numbers.polynomial(q, few)
                chain = rest_chain(q, a, b)
                self.assertEqual(chain[:2], [a, b] if b else [a])
                for one, other, rest in zip(chain, chain[1:], chain[2:] + [()]):
                    self.assertEqual(row_divided(q, one, other)[1], rest)

    def test_wrong_values(self):
        for call in (symbols.symbol, symbols.symbol_steps):
            self.refuses_fields(call, T, ONE)
            for q in FIELDS:
                wrong = (errors.InvalidPolynomial, no_polynomials(q)), (errors.InvalidPolynomial, no_monics(q))
                self.refuses_in_order(lambda a, m, q=q, call=call: call(q, a, m), (T, ONE), wrong)
        self.refuses_fields(symbols.symbol_by_lots, T, T)
        for q in FIELDS:
            wrong = (errors.InvalidPolynomial, no_polynomials(q)), (errors.InvalidPolynomial, no_primes(q))
            self.refuses_in_order(lambda a, prime, q=q: symbols.symbol_by_lots(q, a, prime), (T, T), wrong)

    def test_lots_end(self):
        for q in FIELDS:
            for h in range(1, 7):
                prime = some_primes(q, h, 1)[0]
                if q ** h <= 729:
                    self.assertEqual(symbols.symbol_by_lots(q, (1, 1), prime), by_power(q, (1, 1), prime))
                else:
                    self.refuses(errors.TooMany, 729, symbols.symbol_by_lots, q, (1, 1), prime)
        for q, h in ((3, 6), (9, 3)):
            prime = some_primes(q, h, 1)[0]
            self.assertEqual(symbols.symbol_by_lots(q, T, prime), by_power(q, T, prime))
            self.assertEqual(symbols.symbol_by_lots(q, prime, prime), 0)


class Steps(Case):
    def test_found_steps(self):
        for q in FIELDS:
            numbers = Numbers(50 + q)
            for m in some_monics(q, numbers, 12, 30) + [ONE, T, (0, 0, 1)]:
                for a in [(), ONE, T, m, slow_times(q, m, (1, 1))] + [numbers.polynomial(q, 12) for _ in range(3)]:
                    steps = symbols.symbol_steps(q, a, m)
                    self.assertIsInstance(steps, tuple)
                    self.assertIs(symbols.is_symbol_steps(q, a, m, steps), True)
                    self.assertEqual(symbols.symbol_by_steps(q, a, m, steps), symbols.symbol(q, a, m))

    def test_long_steps(self):
        for q in FIELDS:
            numbers = Numbers(60 + q)
            for a, m in ((numbers.polynomial(q, 400), numbers.monic(q, 400)), (T, numbers.monic(q, 400))):
                steps = symbols.symbol_steps(q, a, m)
                self.assertLessEqual(len(steps), 1300)
                self.assertEqual(symbols.symbol_by_steps(q, a, m, steps), symbols.symbol(q, a, m))

    def test_other_steps(self):
        # T over 1 + T, over three elements: turned with a sign, then 1 + T leaves 1.
        self.assertEqual(symbols.symbol_by_steps(3, T, (1, 1), (TURN, ("rest", ONE), TURN)), 2)
        # T is -1 modulo 1 + T.
        self.assertEqual(symbols.symbol_by_steps(3, T, (1, 1), (("rest", (2,)), ("element", 2), TURN)), 2)
        # A rest may be longer than what stands there, up to the degree 400; elements may stand anywhere.
        far = polys.added(3, (0,) * 400 + ONE, polys.divided(3, (0,) * 400 + (2,), (1, 1))[1])
        far = polys.added(3, far, T)
        self.assertEqual(polys.divided(3, polys.less(3, T, far), (1, 1))[1], ())
        steps = (("element", 2), ("element", 2), ("rest", far), ("rest", T), TURN, TURN, TURN, ("rest", ONE), TURN)
        self.assertEqual(symbols.symbol_by_steps(3, T, (1, 1), steps), 2)
        # Steps may go on behind m = 1, and there each polynomial is a rest.
        steps = (TURN, ("rest", ONE), TURN, ("rest", (2, 0, 1)), ("rest", (1, 1)), TURN, TURN)
        self.assertEqual(symbols.symbol_by_steps(3, T, (1, 1), steps), 2)
        # None are needed where m is 1 or a is 0.
        for q in FIELDS:
            self.assertEqual(symbols.symbol_by_steps(q, (1, 1), ONE, ()), 1)
            self.assertEqual(symbols.symbol_by_steps(q, (), ONE, ()), 1)
            self.assertEqual(symbols.symbol_by_steps(q, (), T, ()), 0)
            self.assertEqual(symbols.symbol_by_steps(q, T, T, (("rest", ()),)), 0)
            self.assertEqual(symbols.symbol_by_steps(q, T, T, (("rest", ()), ("element", q - 1))), 0)

    def test_how_many(self):
        for q in FIELDS:
            for many, fine in ((1298, True), (1299, True), (1300, True), (1301, False), (2000, False)):
                a = (0, 0, 1)
                steps = (("element", 1),) * (many - 1) + (("rest", ()),)
                self.assertIs(symbols.is_symbol_steps(q, a, T, steps), fine)
                if fine:
                    self.assertEqual(symbols.symbol_by_steps(q, a, T, steps), 0)
                else:
                    self.refuses(errors.InvalidOperation, None, symbols.symbol_by_steps, q, a, T, steps)

    def test_no_steps(self):
        a, m = (1, 1, 1), (2, 0, 0, 1)
        wrong = [
            None, True, 1, "", "turn", [], {}, [TURN], {0: TURN}, NESTED, errors.Refused(1), polys.Poly(3, ONE),
            (), (TURN,), (None,), (TURN, None), ("turn",), (["turn"],), (("turn", 1),), (("TURN",),), ((),), ((1,),),
            (("rest",),), (("rest", ONE),), (("rest", a, a),), (("rest", (1, 1, 1, 0)),), (("rest", (True, 1, 1)),),
            (("rest", (3, 1, 1)),), (("rest", [1, 1, 1]),), (("rest", None),), (("rest", polys.Poly(3, a)),),
            (("rest", (0,) * 401 + ONE),), (("element",),), (("element", 0),), (("element", 3),), (("element", -1),),
            (("element", True),), (("element", (1,)),), (("element", "1"),), (("element", 1, 1),), ((polys.Poly(3, a),),),
            (("other", 1),), ((1, 1),), ((True, 1),), (("element", TOO_LONG),), (({}, {}),), (([], []),),
        ]
        right = symbols.symbol_steps(3, a, m)
        self.assertIs(symbols.is_symbol_steps(3, a, m, right), True)
        for value in wrong + [tuple(one) + right[:-1] for one in wrong if isinstance(one, tuple) and one != ()]:
            self.assertIs(symbols.is_symbol_steps(3, a, m, value), False, value)
            self.refuses(errors.InvalidOperation, None, symbols.symbol_by_steps, 3, a, m, value)
        # Each step counts, and is done where it stands.
        for at in range(len(right)):
            self.assertIs(symbols.is_symbol_steps(3, a, m, right[:at]), False)
            self.assertIs(symbols.is_symbol_steps(3, a, m, list(right)), False)
        # A turn takes monic polynomials alone.
        self.assertIs(symbols.is_symbol_steps(3, (2, 2), m, (TURN, TURN)), False)
        self.assertIs(symbols.is_symbol_steps(3, (), m, (TURN,)), False)
        self.assertIs(symbols.is_symbol_steps(3, (2,), m, (("element", 2), TURN)), True)
        self.assertIs(symbols.is_symbol_steps(3, (2,), m, (TURN, ("element", 2))), False)

    def test_wrong_values(self):
        for call in (symbols.is_symbol_steps, symbols.symbol_by_steps):
            self.refuses_fields(call, T, ONE, ())
            for q in FIELDS:
                wrong = (errors.InvalidPolynomial, no_polynomials(q)), (errors.InvalidPolynomial, no_monics(q))
                self.refuses_in_order(lambda a, m, q=q, call=call: call(q, a, m, None), (T, ONE), wrong)
        self.refuses_in_order(
            lambda a, m, steps: symbols.symbol_by_steps(3, a, m, steps), (T, T, (("rest", ()),)),
            ((errors.InvalidPolynomial, [(0,)]), (errors.InvalidPolynomial, [()]), (errors.InvalidOperation, [None])),
        )


class Roots(Case):
    def test_all_rests(self):
        for q in FIELDS:
            for h in range(1, 4):
                if q ** h > 100:
                    continue
                for prime in some_primes(q, h, 2):
                    for e in [one for one in range(1, q) if (q - 1) % one == 0]:
                        powers = powers_of(q, prime, e)
                        for a in powers:
                            found = [b for b in powers if powers[b] == a]
                            self.assertIn(symbols.power_root(q, a, prime, e), found if found else [None])
                            is_power = element_power(q, symbols.symbol(q, a, prime), (q - 1) // e) == 1
                            self.assertEqual(len(found), 1 if a == () else e if is_power else 0)
                            for b in list(powers)[::3] + found:
                                self.assertIs(symbols.is_power_root(q, a, prime, e, b), b in found)

    def test_long_ones(self):
        for q in FIELDS:
            numbers = Numbers(70 + q)
            for h in range(1, 7):
                prime = some_primes(q, h, 1)[0]
                for e in [one for one in range(1, q) if (q - 1) % one == 0]:
                    b = numbers.polynomial(q, 30)
                    a = polys.power(q, b, e)
                    if q ** h > 729:
                        self.refuses(errors.TooMany, 729, symbols.power_root, q, a, prime, e)
                        self.refuses(errors.TooMany, 729, symbols.is_power_root, q, a, prime, e, b)
                        continue
                    made = symbols.power_root(q, a, prime, e)
                    self.assertIs(symbols.is_power_root(q, a, prime, e, made), True)
                    self.assertIs(symbols.is_power_root(q, a, prime, e, row_divided(q, b, prime)[1]), True)
                    self.assertIs(symbols.is_power_root(q, a, prime, e, b), False)
                    # A polynomial with the right rest that is no rest is none.
                    self.assertIs(symbols.is_power_root(q, a, prime, e, polys.added(q, made, prime)), False)
                    zero = slow_times(q, prime, (1, 0, 1))
                    self.assertEqual(symbols.power_root(q, zero, prime, e), ())
                    self.assertIs(symbols.is_power_root(q, zero, prime, e, ()), True)
                    self.assertIs(symbols.is_power_root(q, zero, prime, e, ONE), False)

    def test_values_that_are_judged(self):
        for q in FIELDS:
            prime = some_primes(q, 3, 1)[0]
            for value in no_polynomials(q) + [prime, (0, 0, 0, 1), TOO_LONG, LONGEST, "1"]:
                self.assertIs(symbols.is_power_root(q, ONE, prime, 1, value), False)
            self.assertIs(symbols.is_power_root(q, ONE, prime, 1, ONE), True)
            self.assertIs(symbols.is_power_root(q, ONE, prime, 1, (True,)), False)

    def test_wrong_values(self):
        for call, more in ((symbols.power_root, ()), (symbols.is_power_root, (None,))):
            self.refuses_fields(call, T, T, 1, *more)
            for q in FIELDS:
                numbers = [None, "1", True, False, 0, -1, q, q + 1, TOO_LONG, LONGEST, (1,), [1], q - 1 + q - 1]
                numbers += [e for e in range(1, q) if (q - 1) % e]
                wrong = (
                    (errors.InvalidPolynomial, no_polynomials(q)), (errors.InvalidPolynomial, no_primes(q)),
                    (errors.InvalidNumber, numbers),
                )
                self.refuses_in_order(lambda a, prime, e, q=q: call(q, a, prime, e, *more), (T, T, 1), wrong)
                # The size of the prime comes behind the exponent.
                far = some_primes(q, 6, 1)[0]
                for e in numbers:
                    self.refuses_number(e, call, q, T, far, e, *more)


class NotTrue(Case):
    def test_a_symbol_1_tells_no_power(self):
        m = (0, 1, 1)
        self.assertEqual(symbols.symbol(3, (2,), m), 1)
        for b in slow_below(3, 2):
            self.assertNotEqual(row_divided(3, slow_times(3, b, b), m)[1], (2,))

    def test_turns_change_signs(self):
        self.assertNotEqual(symbols.symbol(3, (0, 1), (1, 1)), symbols.symbol(3, (1, 1), (0, 1)))

    def test_primes_of_even_degree_have_all_symbols(self):
        for q in FIELDS:
            for h in (1, 2, 3):
                for prime in some_primes(q, h, 2):
                    found = {symbols.symbol(q, a, prime) for a in slow_below(q, h)}
                    self.assertEqual(found, set(range(q)))


if __name__ == "__main__":
    unittest.main()

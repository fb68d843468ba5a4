"""monicsums.ring.rounds: the points 10.1 to 10.8."""

import unittest

from monicsums import errors
from monicsums.ground import polys
from monicsums.ring import carlitz, rounds
from tests.support import FIELDS, NO_FIELDS, Case, Numbers, no_monics, no_polynomials, no_primes, rest_of, slow_added
from tests.support import slow_below, slow_less, slow_monics, slow_times, some_primes

ONE = (1,)


def small_primes(most):
    """Fields and primes with at most so many rests."""
    for q in FIELDS:
        for h in range(1, 7):
            if q ** h <= most:
                for prime in some_primes(q, h, 2):
                    yield q, prime


def value(q, a, u, prime):
    return carlitz.carlitz_rest(q, a, u, prime)


def divisors(q, a):
    """All monic polynomials that divide a."""
    return [m for d in range(len(a)) for m in slow_monics(q, d) if rest_of(q, a, m) == ()]


def walked_order(q, prime, u):
    """The order of u by walking over all monic polynomials, those of lower degrees first."""
    for d in range(len(prime)):
        for m in slow_monics(q, d):
            if value(q, m, u, prime) == ():
                return m
    return None


class Orders(Case):
    def test_examples(self):
        told = [rounds.module_order(2, (1, 1, 1), (1,)), rounds.module_order(2, (1, 1, 1), (0, 1))]
        told += [rounds.makers_count(3, (1, 0, 1)), rounds.module_log(2, (1, 1, 1), (1,), (0, 1))]
        self.assertEqual(told, [(0, 1, 1), (0, 1), 6, (1, 1)])

    def test_orders_by_walking(self):
        for q, prime in small_primes(32):
            whole = slow_less(q, prime, ONE)
            counts = {}
            for u in slow_below(q, len(prime) - 1):
                order = rounds.module_order(q, prime, u)
                self.assertEqual(order, walked_order(q, prime, u))
                self.assertEqual(rest_of(q, whole, order), ())
                self.assertEqual(rounds.module_order(q, prime, slow_times(q, u, (q - 1,))), order)
                self.assertIs(rounds.is_maker(q, prime, u), order == whole)
                counts[order] = counts.get(order, 0) + 1
            self.assertEqual(sum(counts.values()), q ** (len(prime) - 1))
            for d in range(len(prime) + 1):
                for m in slow_monics(q, d):
                    self.assertEqual(rounds.orders_count(q, prime, m), counts.get(m, 0))
                    if rest_of(q, whole, m) == ():
                        self.assertEqual(counts[m], polys.units_count(q, m))
            self.assertEqual(rounds.makers_count(q, prime), counts[whole])
            self.assertEqual(rounds.makers_count(q, prime), polys.units_count(q, whole))

    def test_orders(self):
        for q, prime in small_primes(10000):
            numbers = Numbers(q + len(prime))
            for _ in range(3):
                u, a = numbers.polynomial(q, numbers.below(9) - 1), numbers.polynomial(q, numbers.below(5))
                order = rounds.module_order(q, prime, u)
                self.assertEqual(rounds.module_order(q, prime, rest_of(q, u, prime)), order)
                self.assertEqual(value(q, order, u, prime), ())
                for r, _ in polys.factors(q, order)[1]:
                    self.assertNotEqual(value(q, polys.divided(q, order, r)[0], u, prime), ())
                shared = polys.common(q, a, order)[0]
                told = polys.divided(q, order, shared)[0]
                self.assertEqual(rounds.module_order(q, prime, value(q, a, u, prime)), told)
            self.assertEqual(rounds.module_order(q, prime, ()), ONE)
            self.assertEqual(rounds.module_order(q, prime, slow_times(q, prime, (1, 1))), ONE)

    def test_makers(self):
        for q, prime in small_primes(10000):
            whole = slow_less(q, prime, ONE)
            made = rounds.maker(q, prime)
            self.assertIs(rounds.is_maker(q, prime, made), True)
            self.assertLess(len(made), len(prime))
            self.assertEqual(rounds.module_order(q, prime, made), whole)
            self.assertIs(rounds.is_maker(q, prime, slow_added(q, made, prime)), False)
            self.assertIsNone(rounds.not_made(q, prime, slow_added(q, made, prime)))
            if q ** len(whole) <= 100:
                values = [value(q, a, made, prime) for a in slow_below(q, len(prime) - 1)]
                self.assertEqual(sorted(values), sorted(slow_below(q, len(prime) - 1)))
            for wrong in no_polynomials(q) + [(), (True,), prime]:
                self.assertIs(rounds.is_maker(q, prime, wrong), False)

    def test_kinds_of_rests(self):
        for q, prime in small_primes(90):
            whole = slow_less(q, prime, ONE)
            rests = slow_below(q, len(prime) - 1)
            numbers = Numbers(q + len(prime))
            for a in divisors(q, whole)[:6] + [(), numbers.polynomial(q, 5), numbers.polynomial(q, 400)]:
                many = len([u for u in rests if value(q, a, u, prime) == ()])
                self.assertEqual(rounds.killed_by(q, prime, a), many)
            self.assertEqual(rounds.killed_by(q, prime, ()), q ** (len(prime) - 1))
            self.assertEqual(rounds.orders_count(q, prime, (0,) * 400 + (1,)), 0)


class Logs(Case):
    def test_logs(self):
        for q, prime in small_primes(27):
            rests = slow_below(q, len(prime) - 1)
            for start in rests:
                order = rounds.module_order(q, prime, start)
                made = {value(q, a, start, prime): a for a in slow_below(q, len(order) - 1)}
                self.assertEqual(len(made), q ** (len(order) - 1))
                for u in rests:
                    told = rounds.module_log(q, prime, start, u)
                    self.assertEqual(told, made.get(u))
                    divides = rest_of(q, order, rounds.module_order(q, prime, u)) == ()
                    self.assertIs(told is not None, divides)

    def test_far_logs(self):
        for q, prime in small_primes(10000):
            numbers = Numbers(q + 2 * len(prime))
            made = rounds.maker(q, prime)
            for _ in range(3):
                u = numbers.polynomial(q, numbers.below(10) - 1)
                told = rounds.module_log(q, prime, slow_added(q, made, prime), u)
                self.assertLess(len(told), len(prime))
                self.assertEqual(value(q, told, made, prime), rest_of(q, u, prime))

    def test_primes_that_bar(self):
        for q, prime in small_primes(81):
            whole = slow_less(q, prime, ONE)
            for u in slow_below(q, len(prime) - 1):
                bar = rounds.not_made(q, prime, u)
                self.assertIs(bar is None, rounds.is_maker(q, prime, u))
                if bar is not None:
                    self.assertTrue(polys.is_prime(q, bar))
                    left, rest = polys.divided(q, whole, bar)
                    self.assertEqual((rest, value(q, left, u, prime)), ((), ()))

    def test_sums(self):
        for q, prime in small_primes(27):
            rests = slow_below(q, len(prime) - 1)
            orders = {u: rounds.module_order(q, prime, u) for u in rests}
            totals = {}
            for u in rests:
                totals[orders[u]] = slow_added(q, totals.get(orders[u], ()), u)
                for v in rests:
                    if polys.common(q, orders[u], orders[v])[0] == ONE:
                        self.assertEqual(orders[slow_added(q, u, v)], polys.times(q, orders[u], orders[v]))
            if q > 2:
                self.assertEqual(set(totals.values()), {()})

    def test_what_is_not_true(self):
        # Neither 1 nor T makes the round of each prime; primes of one degree may have unlike numbers of makers.
        for start in ((1,), (0, 1)):
            bars = [rounds.not_made(2, prime, start) for prime in polys.primes_of(2, 4)]
            self.assertTrue(any(bar is not None for bar in bars))
        self.assertTrue(len({rounds.makers_count(2, prime) for prime in polys.primes_of(2, 4)}) > 1)
        # The orders of two factors do not tell that of the product.
        prime = (1, 1, 0, 1)
        told = {}
        for u in slow_below(2, 3):
            for v in slow_below(2, 3):
                product = rest_of(2, slow_times(2, u, v), prime)
                key = (rounds.module_order(2, prime, u), rounds.module_order(2, prime, v))
                told.setdefault(key, set()).add(rounds.module_order(2, prime, product))
        self.assertTrue(any(len(orders) > 1 for orders in told.values()))


class Wrong(Case):
    def test_wrong_values(self):
        for q in FIELDS:
            field, prime = (errors.InvalidField, NO_FIELDS), (errors.InvalidPolynomial, no_primes(q))
            a = (errors.InvalidPolynomial, no_polynomials(q))
            for call in (rounds.module_order, rounds.killed_by, rounds.not_made):
                self.refuses_in_order(call, (q, (0, 1), ONE), [field, prime, a])
            for call in (rounds.maker, rounds.makers_count):
                self.refuses_in_order(call, (q, (0, 1)), [field, prime])
            self.refuses_in_order(rounds.is_maker, (q, (0, 1), ONE), [field, prime])
            self.refuses_in_order(rounds.module_log, (q, (0, 1), ONE, ONE), [field, prime, a, a])
            monic = (errors.InvalidPolynomial, no_monics(q))
            self.refuses_in_order(rounds.orders_count, (q, (0, 1), ONE), [field, prime, monic])

    def test_limits(self):
        for q in FIELDS:
            for h in range(1, 7):
                prime = some_primes(q, h, 1)[0]
                if q ** h <= 10000:
                    self.assertEqual(rounds.killed_by(q, prime, ()), q ** h)
                    continue
                for call in (rounds.module_order, rounds.killed_by, rounds.not_made):
                    self.refuses(errors.TooMany, 10000, call, q, prime, ())
                    self.refuses(errors.InvalidPolynomial, None, call, q, prime, None)
                for call in (rounds.maker, rounds.makers_count):
                    self.refuses(errors.TooMany, 10000, call, q, prime)
                self.refuses(errors.TooMany, 10000, rounds.is_maker, q, prime, None)
                self.refuses(errors.TooMany, 10000, rounds.module_log, q, prime, (), ())
                self.refuses(errors.InvalidPolynomial, None, rounds.module_log, q, prime, (), [])
                self.refuses(errors.TooMany, 10000, rounds.orders_count, q, prime, ONE)
                self.refuses(errors.InvalidPolynomial, None, rounds.orders_count, q, prime, ())


if __name__ == "__main__":
    unittest.main()

"""monicsums.ring.torsion: the points 11.1 to 11.8."""

import unittest

from monicsums import errors
from monicsums.ground import polys
from monicsums.ground.rows import row_divided, row_power, row_product, row_sum
from monicsums.ring import carlitz, rounds, torsion
from tests.support import FIELDS, NO_FIELDS, Case, Numbers, no_monics, no_polynomials, no_primes, rest_of, slow_added
from tests.support import slow_below, slow_less, slow_monics, slow_times, some_primes

ONE = (1,)
T = (0, 1)
# The greatest degree of m.
MOST = {q: max(d for d in range(9) if q ** d <= 128) for q in FIELDS}


def monomial(degree):
    return (0,) * degree + (1,)


def list_product(q, one, other):
    """The product of two polynomials in x, as lists of polynomials."""
    made = [()] * (len(one) + len(other) - 1)
    for i, a in enumerate(one):
        if a:
            for j, b in enumerate(other):
                if b:
                    made[i + j] = row_sum(q, made[i + j], row_product(q, a, b))
    return made


def whole_list(q, m):
    """C_m(x) as a list of polynomials."""
    made = [()] * (q ** (len(m) - 1) + 1)
    for i, part in enumerate(carlitz.carlitz(q, m).parts):
        made[q ** i] = part
    return made


def value_of(q, row, u):
    total = ()
    for part in row[::-1]:
        total = row_sum(q, row_product(q, total, u), part)
    return total


def composed(q, row, m):
    """The polynomial in x with C_m(x) put in."""
    inner = whole_list(q, m)
    made = [()]
    for part in row[::-1]:
        made = list_product(q, made, inner)
        made[0] = row_sum(q, made[0], part)
    while made[-1] == ():
        made.pop()
    return made


def some_monics(q, most, step=1):
    """Monic polynomials of all degrees that are let, some of each degree."""
    for d in range(MOST[q] + 1):
        told = slow_monics(q, d)
        yield from told[::max(step, len(told) // most)]


def order_of(q, prime, u):
    """The order of u modulo a prime of any degree."""
    whole = slow_less(q, prime, ONE)
    order = whole
    for r, _ in polys.factors(q, whole)[1]:
        while True:
            less, rest = polys.divided(q, order, r)
            if rest or slow_rest_value(q, less, u, prime):
                break
            order = less
    return order


def slow_rest_value(q, a, u, prime):
    total, made = (), rest_of(q, u, prime)
    for element in a:
        total = slow_added(q, total, slow_times(q, (element,) if element else (), made))
        made = rest_of(q, slow_added(q, slow_times(q, T, made), row_power(q, made, q)), prime)
    return total


class Lists(Case):
    def test_examples(self):
        told = [((1,), (1,)), ((1, 1, 1), (1, 1, 1), (), (1,)), ((0, 1), (), (1,))]
        made = [torsion.torsion(2, (0, 1, 1)), torsion.torsion(2, (1, 1, 1)), torsion.torsion(3, T)]
        self.assertEqual(made, told)
        self.assertEqual(torsion.monic_divisors(2, (0, 1, 1)), ((0, 1), (0, 1, 1), (1,), (1, 1)))
        self.assertEqual((torsion.MOST_NORM, torsion.MOST_ROOTS, torsion.MOST_FACTORED), (128, 300, 60))

    def test_divisors(self):
        for q in FIELDS:
            for m in some_monics(q, 9):
                told = [n for d in range(len(m)) for n in slow_monics(q, d) if rest_of(q, m, n) == ()]
                self.assertEqual(torsion.monic_divisors(q, m), tuple(sorted(told)))

    def test_degrees(self):
        for q in FIELDS:
            self.assertEqual(torsion.torsion(q, ONE), ((), ONE))
            for m in some_monics(q, 40):
                made = torsion.torsion(q, m)
                self.assertEqual((len(made) - 1, made[-1]), (polys.units_count(q, m), ONE))
                primes = [prime for prime, _ in polys.factors(q, m)[1]]
                if primes:
                    self.assertEqual(made[0], primes[0] if len(primes) == 1 else ONE)

    def test_products(self):
        for q in FIELDS:
            for m in some_monics(q, 4, 3):
                told = [ONE]
                for n in torsion.monic_divisors(q, m):
                    told = list_product(q, told, torsion.torsion(q, n))
                self.assertEqual(told, whole_list(q, m))
        # Degree 7 over two elements: the greatest |m|.
        for m in (monomial(7), (1, 1, 0, 0, 0, 0, 0, 1), (0, 1, 0, 1, 1, 1, 0, 1)):
            told = [ONE]
            for n in torsion.monic_divisors(2, m):
                told = list_product(2, told, torsion.torsion(2, n))
            self.assertEqual(told, whole_list(2, m))

    def test_by_compositions(self):
        for q in FIELDS:
            for m in some_monics(q, 2, 2):
                for h in range(1, 3):
                    if len(m) - 1 + h > min(MOST[q], 4):
                        continue
                    for prime in some_primes(q, h, 1):
                        told = composed(q, torsion.torsion(q, m), prime)
                        longer = torsion.torsion(q, slow_times(q, m, prime))
                        if rest_of(q, m, prime) == ():
                            self.assertEqual(list(longer), told)
                        else:
                            self.assertEqual(list_product(q, longer, torsion.torsion(q, m)), told)

    def test_limits(self):
        for q in FIELDS:
            far = monomial(MOST[q] + 1)
            for call in (torsion.monic_divisors, torsion.torsion):
                self.refuses(errors.TooMany, 128, call, q, far)
                self.refuses(errors.TooMany, 128, call, q, monomial(400))
            for call in (torsion.torsion_value, torsion.order_primes, torsion.left_over):
                self.refuses(errors.TooMany, 128, call, q, far, ())
                self.refuses(errors.TooMany, 128, call, q, far, monomial(400))
                self.refuses(errors.InvalidPolynomial, None, call, q, far, None)
            for call in (torsion.torsion_roots, torsion.split_degree):
                self.refuses(errors.TooMany, 128, call, q, far, T)
                self.refuses(errors.TooMany, 128, call, q, far, some_primes(q, 6, 1)[0])
                self.refuses(errors.InvalidPolynomial, None, call, q, far, ONE)

    def test_wrong_values(self):
        for q in FIELDS:
            field, monic = (errors.InvalidField, NO_FIELDS), (errors.InvalidPolynomial, no_monics(q))
            for call in (torsion.monic_divisors, torsion.torsion):
                self.refuses_in_order(call, (q, T), [field, monic])
            u = (errors.InvalidPolynomial, no_polynomials(q))
            for call in (torsion.torsion_value, torsion.order_primes, torsion.left_over):
                self.refuses_in_order(call, (q, T, T), [field, monic, u])
            prime = (errors.InvalidPolynomial, no_primes(q))
            for call in (torsion.torsion_roots, torsion.split_degree):
                self.refuses_in_order(call, (q, T, (1, 1)), [field, monic, prime])

    def test_it_is_not_additive(self):
        # F_m(0) is not 0, and F_m(1 + T) is not the sum of the values at 1 and at T.
        made = [torsion.torsion_value(3, (0, 0, 1), u) for u in ((), ONE, T, (1, 1))]
        self.assertNotEqual(made[0], ())
        self.assertNotEqual(made[3], slow_added(3, made[1], made[2]))


class Values(Case):
    def test_values(self):
        for q in FIELDS:
            numbers = Numbers(q + 700)
            for m in some_monics(q, 6):
                row = torsion.torsion(q, m)
                for u in [(), ONE, T, (1, 1), numbers.polynomial(q, 2), numbers.polynomial(q, 3)]:
                    if (len(row) - 1) * (len(u) - 1) <= 250:
                        self.assertEqual(torsion.torsion_value(q, m, u), value_of(q, row, u))

    def test_zeros(self):
        for q in FIELDS:
            for m in some_monics(q, 30):
                for u in slow_below(q, 3 if q == 2 else 2 if q < 5 else 1):
                    if len(m) < 4 or len(u) < 3:
                        zero = torsion.torsion_value(q, m, u) == ()
                        if q > 2:
                            self.assertIs(zero, (m, u) == (ONE, ()))
                        elif zero:
                            self.assertIn(u, ((), ONE, T, (1, 1)))
        # T * T + T takes these polynomials to 0, so F_n is 0 there for one n that divides it.
        told = {n: [u for u in slow_below(2, 2) if torsion.torsion_value(2, n, u) == ()]
                for n in torsion.monic_divisors(2, (0, 1, 1))}
        self.assertEqual(told, {ONE: [()], T: [T], (1, 1): [(1, 1)], (0, 1, 1): [ONE]})

    def test_long_values(self):
        for q in FIELDS:
            for m in list(some_monics(q, 3)) + [monomial(MOST[q])]:
                units = polys.units_count(q, m)
                degree = min(2000 // units, 400)
                if degree < 2:
                    continue
                u = Numbers(q).polynomial(q, degree)
                made = torsion.torsion_value(q, m, u)
                self.assertEqual(len(made) - 1, units * degree)
                if degree < 30:
                    self.assertEqual(made, value_of(q, torsion.torsion(q, m), u))
                if degree < 400:
                    self.refuses(errors.TooMany, 2000, torsion.torsion_value, q, m, monomial(degree + 1))
                    self.refuses(errors.TooMany, 2000, torsion.torsion_value, q, m, monomial(400))
        self.assertEqual(len(torsion.torsion_value(2, (1, 1, 1, 0, 0, 0, 0, 1), (1, 1))), 1)

    def test_degree_of_values_at_elements(self):
        for q in FIELDS[1:]:
            for m in some_monics(q, 20):
                made = torsion.torsion_value(q, m, (q - 1,))
                self.assertEqual(made, value_of(q, torsion.torsion(q, m), (q - 1,)))
                for call in (torsion.order_primes, torsion.left_over):
                    if len(made) > 61:
                        self.refuses(errors.TooMany, 60, call, q, m, (q - 1,))


class Primes(Case):
    def test_roots(self):
        for q in FIELDS:
            for m in some_monics(q, 5):
                row = torsion.torsion(q, m)
                for h in range(1, 7):
                    prime = some_primes(q, h, 1)[0]
                    if q ** h > 300:
                        self.refuses(errors.TooMany, 300, torsion.torsion_roots, q, m, prime)
                        continue
                    made = torsion.torsion_roots(q, m, prime)
                    self.assertEqual(list(made), sorted(set(made)))
                    if q ** h * len(row) < 700:
                        told = [u for u in slow_below(q, h) if rest_of(q, value_of(q, row, u), prime) == ()]
                        self.assertEqual(made, tuple(sorted(told)))
                    n = m
                    while rest_of(q, n, prime) == ():
                        n = polys.divided(q, n, prime)[0]
                    if q ** h <= 130:
                        told = [u for u in slow_below(q, h) if rounds.module_order(q, prime, u) == n]
                        self.assertEqual(made, tuple(sorted(told)))
                    if n == m:
                        divides = rest_of(q, slow_less(q, prime, ONE), m) == ()
                        self.assertEqual(len(made), len(row) - 1 if divides else 0)

    def test_split_degrees(self):
        for q in FIELDS:
            for m in some_monics(q, 8):
                for h in (1, 2, 6):
                    prime = some_primes(q, h, 1)[0]
                    if rest_of(q, m, prime) == ():
                        self.refuses(errors.Refused, ("divides",), torsion.split_degree, q, m, prime)
                        continue
                    made = torsion.split_degree(q, m, prime)
                    for many in range(1, made + 1):
                        rest = rest_of(q, slow_less(q, row_power(q, prime, many), ONE), m)
                        self.assertIs(rest == (), many == made)
            self.assertEqual(torsion.split_degree(q, ONE, T), 1)

    def test_split_degrees_are_degrees_of_factors(self):
        # Modulo a prime of degree 1 the polynomial F_m has coefficients in the field: its values at 0.
        for q in (2, 3, 5, 7):
            for m in some_monics(q, 5):
                if len(m) < 2 or m[0] == 0:
                    continue
                row = [rest_of(q, part, T) for part in torsion.torsion(q, m)]
                row = tuple(part[0] if part else 0 for part in row)
                if len(row) - 1 <= 20:
                    made = polys.factors(q, row)[1]
                    told = {(len(factor) - 1, many) for factor, many in made}
                    self.assertEqual(told, {(torsion.split_degree(q, m, T), 1)})

    def check_primes(self, q, m, u):
        value = torsion.torsion_value(q, m, u)
        if value == ():
            self.refuses_zero(torsion.order_primes, q, m, u)
            self.refuses_zero(torsion.left_over, q, m, u)
            return
        if len(value) > 61:
            self.refuses(errors.TooMany, 60, torsion.order_primes, q, m, u)
            self.refuses(errors.TooMany, 60, torsion.left_over, q, m, u)
            return
        primes, left = torsion.order_primes(q, m, u), torsion.left_over(q, m, u)
        self.assertEqual(list(primes), sorted(set(primes)))
        made = left
        for prime in primes:
            rest = value
            while rest_of(q, rest, prime) == ():
                rest = row_divided(q, rest, prime)[0]
                made = row_product(q, made, prime)
            self.assertNotEqual(rest_of(q, m, prime), ())
            if len(prime) < 13:
                self.assertTrue(polys.is_prime(q, prime))
                self.assertEqual(order_of(q, prime, u), m)
                self.assertEqual(rest_of(q, slow_less(q, prime, ONE), m), ())
        self.assertEqual(made, value)
        for prime, _ in polys.factors(q, left)[1] if len(left) < 20 else ():
            self.assertEqual(rest_of(q, m, prime), ())

    def test_primes_of_an_order(self):
        for q in FIELDS:
            numbers = Numbers(q + 710)
            for m in some_monics(q, 5):
                for u in [(), ONE, T, (q - 1, 1), numbers.polynomial(q, 2), numbers.polynomial(q, 5)]:
                    self.check_primes(q, m, u)
            self.check_primes(q, ONE, numbers.polynomial(q, 60))
            self.check_primes(q, ONE, numbers.polynomial(q, 61))
            for call in (torsion.order_primes, torsion.left_over):
                self.refuses(errors.TooMany, 60, call, q, monomial(MOST[q]), monomial(400))

    def test_each_prime_of_an_order_is_told(self):
        for q in FIELDS:
            for m in slow_monics(q, 1)[:3] + slow_monics(q, 2)[:3]:
                for u in slow_below(q, 2 if q < 8 else 1):
                    try:
                        told = torsion.order_primes(q, m, u)
                    except (errors.Refused, errors.TooMany):
                        continue
                    for h in range(1, 4 if q < 4 else 2):
                        for prime in polys.primes_of(q, h):
                            self.assertIs(prime in told, rounds.module_order(q, prime, u) == m)

    def test_what_is_not_true(self):
        # A prime that divides F_m(u) may divide m, and be other than 1 modulo m.
        self.assertEqual(torsion.torsion_value(3, T, T), (0, 1, 1))
        self.assertEqual(torsion.left_over(3, T, T), T)
        # There is no prime modulo which the order of T * T is T * T + T.
        self.assertEqual(torsion.order_primes(2, (0, 1, 1), (0, 0, 1)), ())


if __name__ == "__main__":
    unittest.main()

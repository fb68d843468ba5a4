"""monicsums.ring.carlitz: the points 9.1 to 9.8."""

import unittest

from monicsums import errors
from monicsums.ground import polys
from monicsums.ground.rows import row_common_divisor, row_divided, row_monic
from monicsums.ring import carlitz
from monicsums.sums import plain
from monicsums.tables.additive import Additive
from tests.support import FIELDS, LONGEST, NO_COUNTS, NO_FIELDS, Case, Numbers, no_polynomials, no_primes, rest_of
from tests.support import slow_added, slow_below, slow_less, slow_monics, slow_power, slow_times, some_primes

ONE = (1,)
# The greatest degree of a for which all coefficients of C_a are at most of degree 2000.
MOST = {q: max(d for d in range(13) if all((d - i) * q ** i <= 2000 for i in range(d + 1))) for q in FIELDS}


def monomial(degree):
    return (0,) * degree + (1,)


def stepped(q, u):
    """T u + u ** q."""
    return slow_added(q, slow_times(q, (0, 1), u), slow_power(q, u, q))


def slow_value(q, a, u):
    total = ()
    for element in a:
        total = slow_added(q, total, slow_times(q, (element,) if element else (), u))
        u = stepped(q, u)
    return total


class Coefficients(Case):
    def test_examples(self):
        told = [[carlitz.carlitz_coefficient(2, (0, 0, 1), i) for i in range(4)]]
        told += [carlitz.carlitz_value(3, (0, 1), (1, 1)), carlitz.carlitz_value(2, (0, 1), (0, 1))]
        self.assertEqual(told, [[(0, 0, 1), (0, 1, 1), (1,), ()], (1, 1, 1, 1), ()])

    def test_ring(self):
        for q in FIELDS:
            numbers = Numbers(q + 500)
            self.assertEqual(carlitz.carlitz(q, ()).parts, ())
            self.assertEqual(carlitz.carlitz(q, (0, 1)).parts, ((0, 1), ONE))
            for element in range(1, q):
                self.assertEqual(carlitz.carlitz(q, (element,)).parts, ((element,),))
            for _ in range(6):
                a, b = (numbers.polynomial(q, numbers.below(MOST[q] // 2 + 1)) for _ in range(2))
                one, other = carlitz.carlitz(q, a), carlitz.carlitz(q, b)
                self.assertEqual((type(one), one.over), (Additive, q))
                self.assertEqual(one + other, carlitz.carlitz(q, slow_added(q, a, b)))
                self.assertEqual(one * other, carlitz.carlitz(q, slow_times(q, a, b)))
                self.assertEqual(other * one, carlitz.carlitz(q, slow_times(q, a, b)))

    def test_coefficients(self):
        for q in FIELDS:
            numbers = Numbers(q + 510)
            for d in range(0, MOST[q] + 1):
                a = numbers.polynomial(q, d)
                parts = carlitz.carlitz(q, a).parts
                self.assertEqual((parts[0], parts[-1], len(parts)), (a, a[-1:], d + 1))
                for i, part in enumerate(parts):
                    self.assertEqual(carlitz.carlitz_coefficient(q, a, i), part)
                    self.assertEqual(len(part) - 1, (d - i) * q ** i)
                    if i and (d - i) * q ** i < 150 and q ** i < 150:
                        told = slow_added(q, slow_times(q, (0, 1), part), slow_power(q, parts[i - 1], q))
                        self.assertEqual(carlitz.carlitz_coefficient(q, (0,) + a, i), told)
                        bracket = slow_less(q, monomial(q ** i), (0, 1))
                        told = slow_less(q, slow_power(q, parts[i - 1], q), parts[i - 1])
                        self.assertEqual(slow_times(q, part, bracket), told)
                    if d * q ** i <= 2000 and i * q ** i <= 2000:
                        made = row_divided(q, plain.low_value(q, i, a), plain.all_product(q, i))
                        self.assertEqual(made, (part, ()))

    def test_limits(self):
        for q in FIELDS:
            far = monomial(MOST[q] + 1)
            self.refuses(errors.TooMany, 2000, carlitz.carlitz, q, far)
            for d in (12, 13, 400):
                self.refuses(errors.TooMany, 2000, carlitz.carlitz, q, monomial(d))
            for d in (11, 12, 13, 400):
                a = Numbers(q).polynomial(q, d)
                for i in list(range(0, 14)) + [d - 2, d - 1, d, d + 1, LONGEST]:
                    if i > d:
                        self.assertEqual(carlitz.carlitz_coefficient(q, a, i), ())
                    elif (d - i) * q ** i > 2000:
                        self.refuses(errors.TooMany, 2000, carlitz.carlitz_coefficient, q, a, i)
                    else:
                        made = carlitz.carlitz_coefficient(q, a, i)
                        self.assertEqual((len(made) - 1, made[-1]), ((d - i) * q ** i, a[-1]))
            self.assertEqual(carlitz.carlitz_coefficient(q, (), 0), ())
        self.assertEqual(len(carlitz.carlitz(2, (1,) * 12)), 12)

    def test_wrong_values(self):
        for q in FIELDS:
            field, a = (errors.InvalidField, NO_FIELDS), (errors.InvalidPolynomial, no_polynomials(q))
            self.refuses_in_order(carlitz.carlitz, (q, ONE), [field, a])
            self.refuses_in_order(carlitz.carlitz_coefficient, (q, ONE, 0), [field, a, (errors.InvalidNumber, NO_COUNTS)])
            self.refuses_in_order(carlitz.carlitz_value, (q, ONE, ONE), [field, a, a])
            prime = (errors.InvalidPolynomial, no_primes(q))
            self.refuses_in_order(carlitz.carlitz_rest, (q, ONE, ONE, (0, 1)), [field, a, a, prime])


class Values(Case):
    def test_values(self):
        for q in FIELDS:
            numbers = Numbers(q + 520)
            for d in range(-1, 4 if q < 4 else 3):
                a, u = numbers.polynomial(q, d), numbers.polynomial(q, numbers.below(3) - 1)
                told = slow_value(q, a, u)
                self.assertEqual(carlitz.carlitz_value(q, a, u), told)
                self.assertEqual(carlitz.carlitz(q, a)(u), told)

    def test_sums_and_divisors(self):
        for q in FIELDS:
            numbers = Numbers(q + 530)
            most = 5 if q == 2 else 3 if q == 3 else 2
            for _ in range(8):
                a, b = (numbers.polynomial(q, numbers.below(most)) for _ in range(2))
                u, v = numbers.polynomial(q, 3), numbers.polynomial(q, 2)
                made = carlitz.carlitz_value(q, a, u)
                both = slow_added(q, made, carlitz.carlitz_value(q, a, v))
                self.assertEqual(carlitz.carlitz_value(q, a, slow_added(q, u, v)), both)
                for element in range(1, q):
                    told = slow_times(q, (element,), made)
                    self.assertEqual(carlitz.carlitz_value(q, a, slow_times(q, (element,), u)), told)
                whole = carlitz.carlitz_value(q, slow_times(q, a, b), v)
                part = carlitz.carlitz_value(q, b, v)
                if part:
                    self.assertEqual(rest_of(q, whole, part), ())
                shared = row_common_divisor(q, made, carlitz.carlitz_value(q, b, u))
                greatest = carlitz.carlitz_value(q, polys.common(q, a, b)[0], u)
                self.assertEqual(shared, row_monic(q, greatest))

    def test_zeros(self):
        for q in FIELDS:
            for a in slow_below(q, 4 if q == 2 else 2):
                for u in slow_below(q, 3 if q < 4 else 2):
                    zero = a == () or u == ()
                    if q == 2:
                        kinds = {(0, 1): [0], (1, 1): [1], (1,): [0, 1]}
                        roots = kinds.get(u, [])
                        values = [sum(a) % 2 if root else (a + (0,))[0] for root in roots]
                        zero = zero or (roots != [] and not any(values))
                    self.assertIs(carlitz.carlitz_value(q, a, u) == (), zero)

    def test_limits(self):
        for q in FIELDS:
            for u in ((), ONE, (0, 1), (1, 1), monomial(2), monomial(400)):
                for d in (0, 1, 2, 3, 5, 10, 11, 12, 400):
                    made, longest = u, len(u)
                    for _ in range(d):
                        if made and longest <= 2001:
                            made = self.next_one(q, made)
                            longest = max(longest, len(made))
                    if longest > 2001:
                        self.refuses(errors.TooMany, 2000, carlitz.carlitz_value, q, monomial(d), u)
                        self.refuses(errors.TooMany, 2000, carlitz.carlitz_value, q, (1,) * (d + 1), u)
                    else:
                        self.assertEqual(carlitz.carlitz_value(q, monomial(d), u), made)
            self.assertEqual(carlitz.carlitz_value(q, (), monomial(400)), ())
        # For q = 2 the polynomials 1, T and T + 1 make nothing but one another.
        self.assertEqual(carlitz.carlitz_value(2, (1,) * 401, (1, 1)), (1, 1))
        self.assertEqual(len(carlitz.carlitz_value(5, (0, 1), monomial(400))), 2001)
        self.assertEqual(len(carlitz.carlitz_value(2, (0, 0, 1), monomial(400))), 1601)

    def next_one(self, q, u):
        raised = [0] * (q * (len(u) - 1) + 1)
        raised[::q] = u
        return slow_added(q, (0,) + u, tuple(raised))

    def test_what_is_not_true(self):
        for q in FIELDS:
            u, v = (0, 0, 1), (1, 0, 1)
            product = carlitz.carlitz_value(q, (0, 1), slow_times(q, u, v))
            one, other = carlitz.carlitz_value(q, (0, 1), u), carlitz.carlitz_value(q, (0, 1), v)
            self.assertNotEqual(product, slow_times(q, one, other))
            self.assertNotEqual(product, slow_times(q, one, v))
            if q > 2:
                for d in range(1, 4 if q < 5 else 3):
                    self.assertEqual(len(carlitz.carlitz_value(q, monomial(d), ONE)) - 1, q ** (d - 1))
        # For q = 2 the value of C_T at T is 0.
        self.assertEqual(carlitz.carlitz_value(2, (0, 1), (0, 1)), ())
        m = (1, 0, 1, 0, 1)
        self.assertEqual((rest_of(2, carlitz.carlitz_value(2, m, ONE), m), polys.is_prime(2, m)), (ONE, False))


class Rests(Case):
    def test_rests(self):
        for q in FIELDS:
            numbers = Numbers(q + 540)
            for h in range(1, 7):
                for prime in some_primes(q, h, 2):
                    a, u = numbers.polynomial(q, numbers.below(8)), numbers.polynomial(q, numbers.below(9) - 1)
                    total, made = (), rest_of(q, u, prime)
                    for element in a:
                        total = slow_added(q, total, slow_times(q, (element,) if element else (), made))
                        made = rest_of(q, stepped(q, made), prime)
                    told = carlitz.carlitz_rest(q, a, u, prime)
                    self.assertEqual(told, total)
                    self.assertEqual(carlitz.carlitz_rest(q, a, rest_of(q, u, prime), prime), told)
                    low = rest_of(q, a, slow_less(q, prime, ONE))
                    self.assertEqual(carlitz.carlitz_rest(q, low, u, prime), told)
                    self.assertEqual(carlitz.carlitz_rest(q, prime, u, prime), rest_of(q, u, prime))
                    long = numbers.polynomial(q, 400)
                    low = rest_of(q, long, slow_less(q, prime, ONE))
                    made = carlitz.carlitz_rest(q, low, (0, 1), prime)
                    self.assertEqual(carlitz.carlitz_rest(q, long, slow_added(q, long, (0, 1)), prime), slow_added(
                        q, made, carlitz.carlitz_rest(q, low, rest_of(q, long, prime), prime)))
            self.assertEqual(carlitz.carlitz_rest(q, (), (0, 1), (0, 1)), ())
            self.assertEqual(carlitz.carlitz_rest(q, (0, 1), (), (0, 1)), ())

    def test_primes_are_told_by_coefficients(self):
        for q in FIELDS:
            for h in range(1, min(MOST[q], 5 if q == 2 else 3 if q < 5 else 2) + 1):
                for a in slow_monics(q, h):
                    parts = carlitz.carlitz(q, a).parts
                    self.assertEqual(parts[-1], ONE)
                    divided = all(rest_of(q, part, a) == () for part in parts[:-1])
                    self.assertIs(divided, polys.is_prime(q, a))


if __name__ == "__main__":
    unittest.main()

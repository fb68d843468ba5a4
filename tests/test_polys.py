"""monicsums.ground.polys: the points 2.1 to 2.5."""

import unittest

from monicsums import errors
from monicsums.ground import polys
from tests.support import FIELDS, LONGEST, NO_COUNTS, PRIMES, Case, Numbers, no_polynomials
from tests.support import slow_added, slow_below, slow_less, slow_monics, slow_power, slow_times

T = (0, 1)
P = (1, 0, 1)
R = (2, 1, 1)
PAIRS = [polys.added, polys.less, polys.times, polys.divided, polys.common]


def long(q, degree):
    """A polynomial of this degree with many unlike coefficients."""
    return Numbers(q * 1000 + degree).polynomial(q, degree)


class Judged(Case):
    def test_constants(self):
        self.assertEqual((polys.MAX_DEGREE, polys.MAX_MADE, polys.MAX_FACTORED), (400, 2000, 20))

    def test_is_polynomial(self):
        for q in FIELDS:
            for a in [(), (1,), (q - 1,), T, (0, 0, q - 1), (0,) * 400 + (1,), long(q, 400)]:
                self.assertIs(polys.is_polynomial(q, a), True)
            for value in no_polynomials(q):
                self.assertIs(polys.is_polynomial(q, value), False)

    def test_is_monic(self):
        for q in FIELDS:
            for a in [(1,), T, (q - 1, 1), (0,) * 400 + (1,)]:
                self.assertIs(polys.is_monic(q, a), True)
            for value in no_polynomials(q) + [()] + [(0, x) for x in range(2, q)]:
                self.assertIs(polys.is_monic(q, value), False)

    def test_is_prime(self):
        for q in FIELDS:
            limit = 6 if q == 2 else 4 if q == 3 else 3 if q < 7 else 2
            products = set()
            for d in range(1, limit):
                for e in range(1, limit - d + 1):
                    for a in slow_monics(q, d):
                        products.update(slow_times(q, a, b) for b in slow_monics(q, e))
            for d in range(1, limit + 1):
                for a in slow_monics(q, d):
                    self.assertIs(polys.is_prime(q, a), a not in products)
            for value in no_polynomials(q) + [(), (1,)] + [(1, x) for x in range(2, q)]:
                self.assertIs(polys.is_prime(q, value), False)

    def test_primes_of_degree_20_and_21(self):
        self.assertIs(polys.is_prime(2, (1, 0, 0, 1) + (0,) * 16 + (1,)), True)
        self.assertIs(polys.is_prime(2, (1, 1) + (0,) * 18 + (1,)), False)
        # T ** 21 + T ** 2 + 1 is a prime over the field with two elements, but of too great a degree.
        self.assertIs(polys.is_prime(2, (1, 0, 1) + (0,) * 18 + (1,)), False)
        for q in FIELDS:
            a, b = long(q, 9)[:-1] + (1,), long(q, 11)[:-1] + (1,)
            self.assertIs(polys.is_prime(q, slow_times(q, a, b)), False)

    def test_wrong_fields(self):
        for call in (polys.is_polynomial, polys.is_monic, polys.is_prime, polys.units_count, polys.factors):
            self.refuses_fields(call, (1,))
        for call in PAIRS:
            self.refuses_fields(call, (1,), (1,))
        for call in (polys.monics, polys.primes_of, polys.prime_count):
            self.refuses_fields(call, 1)
        self.refuses_fields(polys.power, (1,), 1)
        self.refuses_fields(polys.power_rest, (1,), 1, (1,))
        self.refuses_fields(polys.Poly, (1,))


class Reckoned(Case):
    def test_examples(self):
        self.assertEqual(polys.times(3, P, (1, 1)), (1, 1, 1, 1))
        self.assertEqual(polys.divided(4, (0, 0, 0, 1), R), ((1, 1), (2, 3)))
        self.assertEqual(polys.power(2, (1, 1), 4), (1, 0, 0, 0, 1))
        self.assertEqual(polys.power_rest(3, T, 10 ** 20, P), (1,))
        self.assertEqual(polys.common(5, (4, 0, 1), (1, 1))[0], (1, 1))

    def test_wrong_polynomials(self):
        for q in FIELDS:
            for value in no_polynomials(q):
                for call in PAIRS:
                    self.refuses(errors.InvalidPolynomial, None, call, q, value, (1,))
                    self.refuses(errors.InvalidPolynomial, None, call, q, (1,), value)
                    self.refuses(errors.InvalidPolynomial, None, call, q, value, ())
                self.refuses(errors.InvalidPolynomial, None, polys.power, q, value, -1)
                self.refuses(errors.InvalidPolynomial, None, polys.power_rest, q, value, -1, ())
                self.refuses(errors.InvalidPolynomial, None, polys.power_rest, q, (1,), 1, value)
                self.refuses(errors.InvalidPolynomial, None, polys.factors, q, value)
                self.refuses(errors.InvalidPolynomial, None, polys.units_count, q, value)

    def test_sums_and_products(self):
        for q in FIELDS:
            numbers = Numbers(q)
            rows = [numbers.polynomial(q, numbers.below(9) - 1) for _ in range(25)] + [(), (1,), (q - 1,)]
            for a in rows:
                for b in rows:
                    self.assertEqual(polys.added(q, a, b), slow_added(q, a, b))
                    self.assertEqual(polys.less(q, a, b), slow_less(q, a, b))
                    self.assertEqual(polys.times(q, a, b), slow_times(q, a, b))

    def test_long_products(self):
        for q in FIELDS:
            for one, other in ((60, 90), (400, 30), (400, 25), (24, 400), (400, 3)):
                a, b = long(q, one), long(q, other + 1)[1:]
                self.assertEqual(polys.times(q, a, b), slow_times(q, a, b))
            top = (q - 1,) * 401
            made = polys.times(q, top, top)
            self.assertEqual(len(made), 801)
            square = slow_times(q, (q - 1,), (q - 1,))
            for at in (0, 1, 399, 400, 401, 800):
                told = ()
                for _ in range(min(at, 800 - at) + 1):
                    told = slow_added(q, told, square)
                self.assertEqual(made[at], told[0] if told else 0)

    def test_divided(self):
        for q in FIELDS:
            numbers = Numbers(q + 10)
            for _ in range(60):
                a = numbers.polynomial(q, numbers.below(14) - 1)
                b = numbers.polynomial(q, numbers.below(9))
                quotient, rest = polys.divided(q, a, b)
                self.assertLess(len(rest), len(b))
                self.assertEqual(slow_added(q, slow_times(q, quotient, b), rest), a)
                self.assertTrue(polys.is_polynomial(q, quotient) and polys.is_polynomial(q, rest))
            a, b = long(q, 400), long(q, 150)
            quotient, rest = polys.divided(q, a, b)
            self.assertEqual((len(quotient), len(rest) < 151), (251, True))
            self.assertEqual(polys.added(q, polys.times(q, quotient, b), rest), a)
            self.refuses_zero(polys.divided, q, a, ())
            self.refuses_zero(polys.divided, q, (), ())
            self.assertEqual(polys.divided(q, (), b), ((), ()))

    def test_powers(self):
        for q in FIELDS:
            numbers = Numbers(q + 20)
            for degree in range(-1, 4):
                a = numbers.polynomial(q, degree)
                for k in range(0, 20):
                    self.assertEqual(polys.power(q, a, k), slow_power(q, a, k))
            self.assertEqual(polys.power(q, (), 0), (1,))
            self.assertEqual(polys.power(q, (), LONGEST), ())
            self.assertEqual(polys.power(q, (1,), LONGEST), (1,))
            self.assertEqual(polys.power(q, (q - 1,), LONGEST - 1), slow_power(q, (q - 1,), (LONGEST - 1) % (q - 1)))
            for k in NO_COUNTS:
                self.refuses_number(k, polys.power, q, T, k)
                self.refuses_number(k, polys.power, q, (), k)

    def test_limits_of_powers(self):
        for q in FIELDS:
            self.assertEqual(polys.power(q, T, 2000), (0,) * 2000 + (1,))
            self.refuses(errors.TooMany, 2000, polys.power, q, T, 2001)
            self.refuses(errors.TooMany, 2000, polys.power, q, T, LONGEST)
            a = long(q, 400)
            self.assertEqual(polys.power(q, a, 5), polys.Poly(q, a).__pow__(5).coefficients)
            self.assertEqual(len(polys.power(q, a, 5)), 2001)
            self.refuses(errors.TooMany, 2000, polys.power, q, a, 6)
            self.refuses(errors.TooMany, 2000, polys.power, q, long(q, 3), 667)
            self.assertEqual(len(polys.power(q, long(q, 3), 666)), 1999)

    def test_powers_of_sums(self):
        for q in FIELDS:
            p = PRIMES[q]
            a, b = long(q, 40), long(q, 33)
            powers = [polys.power(q, a, p), polys.power(q, b, p)]
            self.assertEqual(polys.power(q, polys.added(q, a, b), p), polys.added(q, *powers))

    def test_power_rests(self):
        for q in FIELDS:
            numbers = Numbers(q + 30)
            for _ in range(12):
                a = numbers.polynomial(q, numbers.below(7) - 1)
                m = numbers.polynomial(q, numbers.below(5))
                for k in (0, 1, 2, 3, 7, 12, 25):
                    told = polys.divided(q, slow_power(q, a, k), m)[1]
                    self.assertEqual(polys.power_rest(q, a, k, m), told)
            for element in range(1, q):
                self.assertEqual(polys.power_rest(q, long(q, 400), LONGEST, (element,)), ())
                self.assertEqual(polys.power_rest(q, T, 0, (element,)), ())
            self.assertEqual(polys.power_rest(q, (), 0, T), (1,))
            self.refuses(errors.InvalidPolynomial, None, polys.power_rest, q, T, 1, ())
            for k in NO_COUNTS:
                self.refuses_number(k, polys.power_rest, q, T, k, T)
                self.refuses_number(k, polys.power_rest, q, T, k, ())

    def test_power_rests_of_sixty_digits(self):
        for q in FIELDS:
            a, m = long(q, 400), long(q, 90)
            first = polys.power_rest(q, a, 10 ** 59, m)
            second = polys.power_rest(q, a, LONGEST - 10 ** 59, m)
            whole = polys.power_rest(q, a, LONGEST, m)
            self.assertEqual(polys.divided(q, polys.times(q, first, second), m)[1], whole)
            prime = polys.primes_of(q, 2)[0]
            for u in slow_below(q, 2):
                if u:
                    rest = polys.power_rest(q, u, LONGEST % (q * q - 1), prime)
                    self.assertEqual(polys.power_rest(q, u, LONGEST, prime), rest)

    def test_power_rests_of_degree_400(self):
        for q in (2, 7, 8, 9):
            a, m = long(q, 399), long(q, 400)
            for k in (2, 3, 6):
                told = polys.Poly(q, (1,))
                for _ in range(k):
                    told = told * polys.Poly(q, a) % polys.Poly(q, m)
                self.assertEqual(polys.power_rest(q, a, k, m), told.coefficients)
        self.assertEqual(len(polys.power_rest(3, long(3, 400), LONGEST, long(3, 400)[:-1] + (2,))) <= 400, True)


class Divisors(Case):
    def test_common(self):
        for q in FIELDS:
            numbers = Numbers(q + 40)
            rows = [numbers.polynomial(q, numbers.below(6) - 1) for _ in range(12)]
            rows += [(), (1,), (q - 1,), T, slow_power(q, (1, 1), 4), slow_power(q, (1, 1), 3)]
            shared = numbers.polynomial(q, 2)
            rows += [slow_times(q, shared, a) for a in rows[:5]]
            for a in rows:
                for b in rows:
                    self.judge_common(q, a, b)
            self.assertEqual(polys.common(q, (), ())[0], ())
            self.judge_common(q, long(q, 400), long(q, 399))
            self.judge_common(q, polys.times(q, long(q, 200), long(q, 90)), polys.times(q, long(q, 300), long(q, 90)))

    def judge_common(self, q, a, b):
        g, u, v = polys.common(q, a, b)
        one, other = polys.Poly(q, u) * polys.Poly(q, a), polys.Poly(q, v) * polys.Poly(q, b)
        self.assertEqual((one + other).coefficients, g)
        for one in (u, v):
            self.assertTrue(polys.is_polynomial(q, one))
            self.assertTrue(len(one) <= 1 or len(one) <= max(len(a), len(b)))
        if a or b:
            # A common divisor that is a sum of multiples is the greatest one.
            self.assertTrue(polys.is_monic(q, g))
            self.assertEqual([polys.divided(q, one, g)[1] for one in (a, b)], [(), ()])

    def test_monics(self):
        for q in FIELDS:
            for d in range(0, 10):
                if q ** d <= 1000:
                    self.assertEqual(list(polys.monics(q, d)), slow_monics(q, d))
                else:
                    self.refuses(errors.TooMany, 1000, polys.monics, q, d)
            self.refuses(errors.TooMany, 1000, polys.monics, q, 300)
            for d in NO_COUNTS + [301, LONGEST]:
                self.refuses_number(d, polys.monics, q, d)

    def test_primes_of(self):
        for q in FIELDS:
            for h in range(1, 11):
                if q ** h > 1000:
                    self.refuses(errors.TooMany, 1000, polys.primes_of, q, h)
                    continue
                primes = polys.primes_of(q, h)
                self.assertEqual(list(primes), [a for a in slow_monics(q, h) if polys.is_prime(q, a)])
                self.assertEqual(len(primes), polys.prime_count(q, h))
            self.refuses(errors.TooMany, 1000, polys.primes_of, q, 60)
            for h in NO_COUNTS + [0, 61, LONGEST]:
                self.refuses_number(h, polys.primes_of, q, h)
                self.refuses_number(h, polys.prime_count, q, h)
        self.assertEqual(polys.primes_of(2, 3), ((1, 0, 1, 1), (1, 1, 0, 1)))
        self.assertEqual(polys.primes_of(3, 1), ((0, 1), (1, 1), (2, 1)))

    def test_prime_count(self):
        for q in FIELDS:
            counts = {h: polys.prime_count(q, h) for h in range(1, 61)}
            for n in counts:
                self.assertEqual(sum(h * counts[h] for h in counts if n % h == 0), q ** n)
        self.assertEqual([polys.prime_count(2, h) for h in range(1, 9)], [2, 1, 2, 3, 6, 9, 18, 30])

    def judge_factors(self, q, a):
        element, pairs = polys.factors(q, a)
        made = (element,)
        for prime, many in pairs:
            self.assertTrue(polys.is_prime(q, prime) and many >= 1)
            for _ in range(many):
                made = polys.times(q, made, prime)
        self.assertEqual(made, a)
        self.assertEqual([prime for prime, _ in pairs], sorted({prime for prime, _ in pairs}))

    def test_factors(self):
        for q in FIELDS:
            numbers = Numbers(q + 50)
            for degree in range(0, 21):
                for _ in range(4):
                    self.judge_factors(q, numbers.polynomial(q, degree))
            for a in (T, (1, 1), numbers.polynomial(q, 2), numbers.polynomial(q, 3)):
                for k in range(1, 21):
                    if (len(a) - 1) * k <= 18:
                        self.judge_factors(q, slow_times(q, slow_power(q, a, k), numbers.polynomial(q, 2)))
            self.assertEqual(polys.factors(q, (q - 1,)), (q - 1, ()))
            # All polynomials of degree 1 together, and the primes of degree 2.
            if q <= 4:
                self.assertEqual(
                    polys.factors(q, (0, q - 1 if q % 2 else 1) + (0,) * (q - 2) + (1,)),
                    (1, tuple(((x, 1), 1) for x in range(q))),
                )
            for prime in polys.primes_of(q, 2):
                self.assertEqual(polys.factors(q, prime), (1, ((prime, 1),)))
            top = (0,) * 20 + (q - 1,)
            self.assertEqual(polys.factors(q, top), (q - 1, ((T, 20),)))
            self.refuses(errors.TooMany, 20, polys.factors, q, (0,) * 21 + (1,))
            self.refuses(errors.TooMany, 20, polys.units_count, q, (0,) * 21 + (1,))
            self.refuses_zero(polys.factors, q, ())

    def test_units_count(self):
        for q in FIELDS:
            for d in range(0, 5 if q == 2 else 4 if q == 3 else 3 if q == 4 else 2):
                for m in slow_monics(q, d):
                    units = [u for u in slow_below(q, d) if len(polys.common(q, u, m)[0]) == 1]
                    self.assertEqual(polys.units_count(q, m), len(units) if d else 1)
                    self.assertEqual(polys.units_count(q, slow_times(q, m, (q - 1,))), len(units) if d else 1)
            self.assertEqual(polys.units_count(q, (0,) * 20 + (1,)), (q - 1) * q ** 19)
            self.refuses(errors.InvalidPolynomial, None, polys.units_count, q, ())


if __name__ == "__main__":
    unittest.main()

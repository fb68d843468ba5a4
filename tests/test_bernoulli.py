"""monicsums.series.bernoulli: the points 14.1 to 14.6."""

import unittest

from monicsums import errors
from monicsums.ground import polys
from monicsums.ground.quotients import lowest, sum_of_quotients
from monicsums.ground.rows import row_common_divisor, row_divided, row_product
from monicsums.ring import carlitz
from monicsums.series import bernoulli
from monicsums.sums import plain
from monicsums.whole import factorials
from tests.support import FIELDS, LONGEST, NO_COUNTS, NO_FIELDS, POWERS, PRIMES, Case, digits_of, minus, no_primes
from tests.support import slow_less, some_primes

ONE = (1,)
ZERO = ((), ONE)
FAR = [LONGEST, 10 ** 59, 2 ** 199 - 1, 2 ** 190, 2 ** 190 + 1, 3 ** 120 - 1, 7 ** 70 - 1, 8 ** 66 - 1, 9 ** 60 - 1]


def times(q, one, other):
    return lowest(q, row_product(q, one[0], other[0]), row_product(q, one[1], other[1]))


def bracket(q, i):
    return slow_less(q, (0,) * q ** i + (1,), (0, 1))


def told_degrees(q, k):
    """The bottom degrees, word for word."""
    if k == 0 or k % (q - 1):
        return ()
    p, f = PRIMES[q], POWERS[q]
    total = sum(digits_of(p, k))
    found = set()
    if total % (f * (p - 1)) == 0 and k % (q ** (total // (f * (p - 1))) - 1) == 0:
        found.add(total // (f * (p - 1)))
    if q == 2 and k in [2 ** a + 1 for a in range(1, 201)]:
        found.add(1)
    return tuple(sorted(found))


def told_element(q, k):
    p = PRIMES[q]
    made = 1
    for digit in digits_of(p, k):
        for number in range(1, digit + 1):
            made = made * number % p
    made = pow(made, -1, p)
    if POWERS[q] == 2 and told_degrees(q, k)[0] % 2:
        made = -made % p
    return made


class Exponential(Case):
    def test_coefficients(self):
        for q in FIELDS:
            for i in range(0, 12):
                if i * q ** i <= 2000:
                    self.assertEqual(bernoulli.exp_coefficient(q, i), (ONE, plain.all_product(q, i)))
                else:
                    self.refuses(errors.TooMany, 2000, bernoulli.exp_coefficient, q, i)
                if sum(q ** j for j in range(1, i + 1)) <= 2000:
                    top = ONE if i % 2 == 0 else minus(q, ONE)
                    self.assertEqual(bernoulli.log_coefficient(q, i), (top, plain.least_multiple(q, i)))
                else:
                    self.refuses(errors.TooMany, 2000, bernoulli.log_coefficient, q, i)
            for call in (bernoulli.exp_coefficient, bernoulli.log_coefficient):
                for i in (12, 300, 2000, 10 ** 6, LONGEST):
                    self.refuses(errors.TooMany, 2000, call, q, i)

    def test_both_series_undo_each_other(self):
        for q in FIELDS:
            for n in range(1, 4):
                if n * q ** n > 300:
                    continue
                total = ZERO
                for i in range(n + 1):
                    top, bottom = bernoulli.log_coefficient(q, n - i)
                    raised = (polys.power(q, top, q ** i), polys.power(q, bottom, q ** i))
                    total = sum_of_quotients(q, total, times(q, bernoulli.exp_coefficient(q, i), raised))
                self.assertEqual(total, ZERO)

    def test_multiples_go_by_c(self):
        # The coefficient at x ** (q ** n) of exp(a x), and of C_a with exp(x) put in.
        for q in FIELDS:
            for a in ((0, 1), (1, 1), (1, 0, 1)):
                for n in range(0, 3):
                    if n * q ** n > 200:
                        continue
                    one = times(q, (polys.power(q, a, q ** n), ONE), bernoulli.exp_coefficient(q, n))
                    total = ZERO
                    for i in range(min(n, len(a) - 1) + 1):
                        top, bottom = bernoulli.exp_coefficient(q, n - i)
                        raised = (top, polys.power(q, bottom, q ** i))
                        part = times(q, (carlitz.carlitz_coefficient(q, a, i), ONE), raised)
                        total = sum_of_quotients(q, total, part)
                    self.assertEqual(one, total)


class Numbers(Case):
    def test_examples(self):
        told = [((1,), (1,)), ((), (1,)), ((2,), (0, 2, 0, 1)), ((1,), (0, 2, 0, 1))]
        self.assertEqual([bernoulli.bernoulli(3, k) for k in (0, 1, 2, 4)], told)
        self.assertEqual((bernoulli.MOST_INDEX, bernoulli.MOST_MADE_DEGREE), (80, 2000))

    def test_by_sums(self):
        for q in FIELDS:
            told = [bernoulli.bernoulli(q, k) for k in range(81)]
            self.assertEqual(told[0], (ONE, ONE))
            self.assertEqual(told[q - 1], (minus(q, ONE), bracket(q, 1)))
            for k in range(1, 81):
                self.assertIs(told[k] == ZERO, k % (q - 1) != 0)
                self.assertEqual(row_common_divisor(q, *told[k]), ONE)
                total, i = ZERO, 0
                while q ** i - 1 <= k:
                    below = k - q ** i + 1
                    factor = row_divided(q, factorials.factorial(q, k), factorials.factorial(q, below))[0]
                    part = times(q, told[below], lowest(q, factor, plain.all_product(q, i)))
                    total = sum_of_quotients(q, total, part)
                    i += 1
                self.assertEqual(total, ZERO)

    def test_by_the_logarithm(self):
        # x / exp(x) is the sum of (-1) ** j exp(x) ** (q ** j - 1) / L_j, up to x ** 24.
        for q in FIELDS:
            most = 24 if q > 2 else 14
            series = {0: (ONE, ONE)}
            for i in range(1, 6):
                if q ** i - 1 <= most:
                    series[q ** i - 1] = bernoulli.exp_coefficient(q, i)
            total, power, exponent = {}, {0: (ONE, ONE)}, 0
            j = 0
            while q ** j - 1 <= most:
                while exponent < q ** j - 1:
                    power, exponent = self.multiplied(q, power, series, most), exponent + 1
                for at in power:
                    if at + exponent <= most:
                        part = times(q, power[at], bernoulli.log_coefficient(q, j))
                        place = at + exponent
                        total[place] = sum_of_quotients(q, total.get(place, ZERO), part)
                j += 1
            for k in range(most + 1):
                made = times(q, total.get(k, ZERO), (factorials.factorial(q, k), ONE))
                self.assertEqual(bernoulli.bernoulli(q, k), made)

    def multiplied(self, q, one, other, most):
        made = {}
        for i in one:
            for j in other:
                if i + j <= most:
                    made[i + j] = sum_of_quotients(q, made.get(i + j, ZERO), times(q, one[i], other[j]))
        return made

    def test_limits(self):
        for q in FIELDS:
            self.assertEqual(len(bernoulli.bernoulli(q, 80)), 2)
            self.assertEqual(type(bernoulli.whole_part(q, 80)), tuple)
            for k in (81, 82, 10 ** 20, LONGEST):
                self.refuses(errors.TooMany, 80, bernoulli.bernoulli, q, k)
                self.refuses(errors.TooMany, 80, bernoulli.whole_part, q, k)

    def test_wrong_values(self):
        field, number = (errors.InvalidField, NO_FIELDS), (errors.InvalidNumber, NO_COUNTS)
        for q in FIELDS:
            for call in (bernoulli.exp_coefficient, bernoulli.log_coefficient, bernoulli.bernoulli, bernoulli.whole_part,
                         bernoulli.bottom_degrees, bernoulli.bernoulli_bottom, bernoulli.bottom_element):
                self.refuses_in_order(call, (q, 1), [field, number])
            prime = (errors.InvalidPolynomial, no_primes(q))
            self.refuses_in_order(bernoulli.irregular, (q, (0, 1)), [field, prime])
            self.refuses_in_order(bernoulli.is_irregular, (q, (0, 1), None), [field, prime])


class Bottoms(Case):
    def test_degrees(self):
        for q in FIELDS:
            for k in list(range(0, 700)) + FAR:
                self.assertEqual(bernoulli.bottom_degrees(q, k), told_degrees(q, k))
        # Two of them, and one that the digits do not tell.
        self.assertEqual([bernoulli.bottom_degrees(2, k) for k in (3, 5, 9, 2)], [(1, 2), (1,), (1, 2), (1,)])
        self.assertEqual([bernoulli.bottom_degrees(2, 2 ** 199 - 1), bernoulli.bottom_degrees(9, 9 ** 60 - 1)], [
            (199,), (60,)])

    def test_bottoms(self):
        for q in FIELDS:
            self.assertEqual(bernoulli.bernoulli_bottom(q, 0), ONE)
            for k in range(1, 81):
                self.assertEqual(bernoulli.bernoulli_bottom(q, k), bernoulli.bernoulli(q, k)[1])
            for k in list(range(81, 400)) + [q ** h - 1 for h in range(1, 12)] + FAR:
                degrees = told_degrees(q, k)
                degree = sum(h * polys.prime_count(q, h) for h in degrees if h <= 60)
                if degree > 2000 or any(h > 60 for h in degrees):
                    self.refuses(errors.TooMany, 2000, bernoulli.bernoulli_bottom, q, k)
                    continue
                told = ONE
                for h in degrees:
                    if q ** h <= 1000:
                        for prime in polys.primes_of(q, h):
                            told = row_product(q, told, prime)
                made = bernoulli.bernoulli_bottom(q, k)
                self.assertEqual(len(made) - 1, degree)
                if all(q ** h <= 1000 for h in degrees):
                    self.assertEqual(made, told)

    def test_whole_parts(self):
        for q in FIELDS:
            primes = {h: polys.primes_of(q, h) for h in range(1, 10) if q ** h <= 100}
            self.assertEqual((bernoulli.whole_part(q, 0), bernoulli.bottom_element(q, 0)), ((), 0))
            for k in range(1, 81):
                total = bernoulli.bernoulli(q, k)
                element = bernoulli.bottom_element(q, k)
                degrees = told_degrees(q, k)
                self.assertEqual(element, told_element(q, k) if degrees else 0)
                for h in degrees:
                    for prime in primes[h]:
                        total = sum_of_quotients(q, total, ((element,), prime))
                self.assertEqual((bernoulli.whole_part(q, k), ONE), total)
                if k % (q - 1):
                    self.assertEqual((bernoulli.whole_part(q, k), element), ((), 0))
            for k in FAR:
                self.assertEqual(bernoulli.bottom_element(q, k), told_element(q, k) if told_degrees(q, k) else 0)
        # With q = 9 the degree 1 turns the sign: 8 is 22 in base 3, and 2 ! 2 ! is 1.
        self.assertEqual(bernoulli.bottom_element(9, 8), 2)

    def test_what_is_not_true(self):
        self.assertEqual([bernoulli.bottom_degrees(2, k) for k in (3, 9)], [(1, 2), (1, 2)])
        self.assertEqual(bernoulli.bernoulli(2, 5)[1], (0, 1, 1))


class Irregular(Case):
    def test_primes(self):
        found = 0
        for q in FIELDS:
            for h in range(1, 7):
                if q ** h > 81:
                    continue
                size = q ** h
                reach = range(1, size - 1) if q == 2 else range(q - 1, size - q + 1, q - 1)
                tops = {k: bernoulli.bernoulli(q, k)[0] for k in reach}
                for prime in polys.primes_of(q, h):
                    told = tuple(k for k in reach if row_divided(q, tops[k], prime)[1] == ())
                    self.assertEqual(bernoulli.irregular(q, prime), told)
                    found += len(told)
                    for k in reach:
                        self.assertNotIn(h, bernoulli.bottom_degrees(q, k))
                    if told or prime[1] == 1:
                        for k in list(range(0, size + 3)) + [-1, LONGEST]:
                            self.assertIs(bernoulli.is_irregular(q, prime, k), k in told)
        self.assertGreater(found, 0)
        self.assertEqual(bernoulli.irregular(3, (1, 0, 1, 1, 1)), (40,))

    def test_values(self):
        for value in NO_COUNTS + [40, "40", (40,), [40], 40 * 10 ** 59]:
            self.assertIs(bernoulli.is_irregular(3, (1, 0, 1, 1, 1), value), value == 40)
        # 1 is in the range of a prime of degree 2 over two elements, True is not.
        self.assertIs(bernoulli.is_irregular(2, (1, 1, 1), True), False)
        self.assertEqual(bernoulli.irregular(2, (0, 1)), ())

    def test_limits(self):
        for q in FIELDS:
            for h in range(1, 7):
                prime = some_primes(q, h, 1)[0]
                if q ** h <= 81:
                    self.assertEqual(type(bernoulli.irregular(q, prime)), tuple)
                else:
                    self.refuses(errors.TooMany, 80, bernoulli.irregular, q, prime)
                    self.refuses(errors.TooMany, 80, bernoulli.is_irregular, q, prime, None)


if __name__ == "__main__":
    unittest.main()

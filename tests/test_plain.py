"""monicsums.sums.plain: the points 4.1 to 4.6."""

import unittest

from monicsums import errors
from monicsums.ground import polys
from monicsums.sums import plain
from tests.support import FIELDS, LONGEST, NO_COUNTS, PRIMES, Case, Numbers, no_polynomials
from tests.support import slow_added, slow_below, slow_less, slow_monics, slow_power, slow_times

NO_DEGREES = NO_COUNTS + [301, LONGEST]
SUMS = [plain.power_sum, plain.sum_by_series, plain.sums_below]


def slow_power_sum(q, d, k):
    total = ()
    for a in slow_monics(q, d):
        total = slow_added(q, total, slow_power(q, a, k))
    return total


def two_powers(q, i, j):
    """T ** i less T ** j."""
    return slow_less(q, (0,) * i + (1,), (0,) * j + (1,))


def minus(q, a):
    return slow_less(q, (), a)


class Sums(Case):
    def test_constants_and_examples(self):
        self.assertEqual((plain.MAX_SUMMED, plain.MAX_TERMS), (300, 400))
        told = [(), (2,), (0, 1, 0, 2), (2, 0, 2, 0, 2, 0, 2)]
        self.assertEqual([plain.power_sum(3, 1, k) for k in (0, 2, 5, 8)], told)

    def test_small_sums(self):
        for q in FIELDS:
            for d in range(0, 4 if q == 2 else 3 if q == 3 else 2):
                for k in range(0, 24):
                    self.assertEqual(plain.power_sum(q, d, k), slow_power_sum(q, d, k))

    def test_no_degree_and_no_power(self):
        for q in FIELDS:
            for k in (0, 1, 7, 2001, LONGEST):
                self.assertEqual(plain.power_sum(q, 0, k), (1,))
            for d in range(1, 9):
                if q ** d <= 300:
                    self.assertEqual(plain.power_sum(q, d, 0), ())

    def test_exponents_and_prime_powers(self):
        for q in FIELDS:
            p = PRIMES[q]
            for d in range(1, 4 if q < 4 else 3):
                for k in range(0, 90, 3):
                    made = plain.power_sum(q, d, k)
                    for at, element in enumerate(made):
                        if element:
                            self.assertEqual((at - d * k) % (q - 1), 0)
                    self.assertEqual(plain.power_sum(q, d, p * k), polys.power(q, made, p))

    def test_limits(self):
        most = {2: 8, 3: 5, 4: 4, 5: 3, 7: 2, 8: 2, 9: 2}
        for q in FIELDS:
            d = most[q]
            self.assertEqual(plain.power_sum(q, d, 1), (1,) if (q, d) == (2, 1) else ())
            for far in (d + 1, 300):
                self.refuses(errors.TooMany, 300, plain.power_sum, q, far, 0)
                self.refuses(errors.TooMany, 300, plain.power_sum, q, far, LONGEST)
            self.refuses(errors.TooMany, 2000, plain.power_sum, q, 1, 2001)
            self.refuses(errors.TooMany, 2000, plain.power_sum, q, 2, 1001)
            self.refuses(errors.TooMany, 2000, plain.power_sum, q, 2, LONGEST)
            # (T + c) ** 2000 is (T ** p + c ** p) ** (2000 / p), and so on.
            self.assertEqual(len(plain.power_sum(q, 1, 2000)) <= 2001, True)
        self.assertEqual(plain.power_sum(2, 1, 2000), slow_added(
            2, (0,) * 2000 + (1,), polys.power(2, (1, 1), 2000)))
        self.assertEqual(plain.power_sum(2, 2, 1000), polys.power(2, plain.power_sum(2, 2, 125), 8))

    def test_wrong_values(self):
        for call in SUMS:
            self.refuses_fields(call, 1, 1)
            for q in FIELDS:
                for d in NO_DEGREES:
                    self.refuses_number(d, call, q, d, 1)
                    self.refuses_number(d, call, q, d, -1)
                for k in NO_COUNTS:
                    self.refuses_number(k, call, q, 1, k)
                    self.refuses_number(k, call, q, 300, k)
                    self.refuses_number(k, call, q, 0, k)
        for call in (plain.all_product, plain.least_multiple, plain.low_coefficients):
            self.refuses_fields(call, 1)
            for d in NO_DEGREES:
                self.refuses_number(d, call, 3, d)
        self.refuses_fields(plain.low_value, 1, (1,))
        for q in FIELDS:
            for d in NO_DEGREES:
                self.refuses_number(d, plain.low_value, q, d, (1,))
                self.refuses_number(d, plain.low_value, q, d, None)
            for a in no_polynomials(q):
                self.refuses(errors.InvalidPolynomial, None, plain.low_value, q, 1, a)
                self.refuses(errors.InvalidPolynomial, None, plain.low_value, q, 300, a)

    def test_what_is_not_true(self):
        # S(1, p ** n) is 0 over a field with more than two elements, whatever n.
        for q in FIELDS[1:]:
            k = 1
            while k <= 2000:
                self.assertEqual(plain.power_sum(q, 1, k), ())
                k *= PRIMES[q]
        # D(2) has T as a divisor more than once.
        self.assertEqual(polys.factors(2, plain.all_product(2, 2))[1][0], ((0, 1), 3))


class Products(Case):
    def test_all_products(self):
        for q in FIELDS:
            for d in range(0, 5 if q == 2 else 3):
                made = (1,)
                if d * q ** d > 400:
                    continue
                for a in slow_monics(q, d):
                    made = polys.times(q, made, a)
                self.assertEqual(plain.all_product(q, d), made)
            for d in range(0, 12):
                if d * q ** d > 2000:
                    self.refuses(errors.TooMany, 2000, plain.all_product, q, d)
                    continue
                made = polys.Poly(q, (1,))
                for j in range(d):
                    factor = polys.Poly(q, (0, 1)) ** (q ** d) - polys.Poly(q, (0, 1)) ** (q ** j)
                    made = made * factor
                self.assertEqual(plain.all_product(q, d), made.coefficients)
                self.assertEqual(made.degree, d * q ** d)
            self.refuses(errors.TooMany, 2000, plain.all_product, q, 300)

    def test_least_multiples(self):
        for q in FIELDS:
            made = polys.Poly(q, (1,))
            for d in range(0, 12):
                degree = sum(q ** j for j in range(1, d + 1))
                if degree > 2000:
                    self.refuses(errors.TooMany, 2000, plain.least_multiple, q, d)
                    continue
                if d:
                    made = made * (polys.Poly(q, (0, 1)) ** (q ** d) - polys.Poly(q, (0, 1)))
                self.assertEqual((plain.least_multiple(q, d), made.degree), (made.coefficients, degree))
            self.refuses(errors.TooMany, 2000, plain.least_multiple, q, 300)
        # The least common multiple of all monic polynomials of degree 1 and of degree 2.
        self.assertEqual(plain.least_multiple(3, 1), (0, 2, 0, 1))
        for a in slow_monics(3, 2):
            self.assertEqual(polys.divided(3, plain.least_multiple(3, 2), a)[1], ())

    def test_low_coefficients(self):
        for q in FIELDS:
            for d in range(0, 3 if q < 4 else 2):
                # The product of x - a, with the coefficients at the powers of x as a list.
                row = [(1,)]
                for a in slow_below(q, d):
                    moved = [()] + row
                    row = [slow_less(q, x, slow_times(q, a, y)) for x, y in zip(moved, row + [()])]
                told = plain.low_coefficients(q, d)
                self.assertEqual(tuple(row[q ** i] for i in range(d + 1)), told)
                places = [at for at, x in enumerate(row) if x]
                self.assertEqual([at for at in places if at not in [q ** i for i in range(d + 1)]], [])

    def test_low_coefficients_by_products(self):
        for q in FIELDS:
            for d in range(0, 12):
                degree = d * q ** d - sum(q ** j for j in range(1, d + 1))
                if degree > 2000:
                    self.refuses(errors.TooMany, 2000, plain.low_coefficients, q, d)
                    continue
                told = plain.low_coefficients(q, d)
                self.assertEqual((len(told), len(told[0]) - 1, told[-1]), (d + 1, degree, (1,)))
                if d * q ** d > 2000:
                    continue
                whole = polys.Poly(q, ()) + self.long_poly(q, plain.all_product(q, d))
                for i, one in enumerate(told):
                    bottom = self.long_poly(q, plain.all_product(q, i))
                    bottom = bottom * self.long_poly(q, plain.least_multiple(q, d - i)) ** (q ** i)
                    sign = (1,) if (d - i) % 2 == 0 else minus(q, (1,))
                    made = whole // bottom * polys.Poly(q, sign)
                    self.assertEqual((made.coefficients, (whole % bottom).degree), (one, -1))
            self.refuses(errors.TooMany, 2000, plain.low_coefficients, q, 300)
        # The greatest coefficient may be returned where D(d) may not.
        self.assertEqual(len(plain.low_coefficients(2, 8)[0]), 1539)

    def long_poly(self, q, a):
        """A polynomial with operators with coefficients of up to degree 2000."""
        made = polys.Poly(q, ())
        for at in range(0, len(a), 400):
            part = a[at:at + 400]
            while part and part[-1] == 0:
                part = part[:-1]
            made = made + polys.Poly(q, part) * polys.Poly(q, (0, 1)) ** at
        return made

    def test_low_values(self):
        for q in FIELDS:
            numbers = Numbers(q + 120)
            for d in range(0, 4 if q == 2 else 3 if q == 3 else 2):
                for degree in range(-1, 5):
                    a = numbers.polynomial(q, degree)
                    made = (1,)
                    for b in slow_below(q, d):
                        made = slow_times(q, made, slow_less(q, a, b))
                    self.assertEqual(plain.low_value(q, d, a), made)
                    self.assertIs(made == (), degree < d)
                a, b = numbers.polynomial(q, 3), numbers.polynomial(q, 5)
                both = [plain.low_value(q, d, a), plain.low_value(q, d, b)]
                self.assertEqual(plain.low_value(q, d, slow_added(q, a, b)), polys.added(q, *both))
            for d in range(0, 4):
                if d * q ** d <= 2000:
                    self.assertEqual(plain.low_value(q, d, numbers.monic(q, d)), plain.all_product(q, d))
                else:
                    self.refuses(errors.TooMany, 2000, plain.low_value, q, d, numbers.monic(q, d))

    def test_limits_of_low_values(self):
        for q in FIELDS:
            self.assertEqual(plain.low_value(q, 300, (0,) * 299 + (1,)), ())
            self.assertEqual(plain.low_value(q, 300, ()), ())
            self.refuses(errors.TooMany, 2000, plain.low_value, q, 300, (0,) * 300 + (1,))
            self.assertEqual(plain.low_value(q, 0, (0,) * 400 + (1,)), (0,) * 400 + (1,))
            degree = min(2000 // q, 400)
            self.assertEqual(len(plain.low_value(q, 1, (0,) * degree + (1,))), degree * q + 1)
            if degree < 400:
                self.refuses(errors.TooMany, 2000, plain.low_value, q, 1, (0,) * (degree + 1) + (1,))


class Series(Case):
    def test_both_ways(self):
        for q in FIELDS:
            for d in range(0, 9):
                if q ** d <= 300:
                    step = 3 if d < 3 else 17
                    for k in list(range(0, 60, step)) + [q ** d - 1, q ** d, 2 * q ** d - 2]:
                        if k <= 400 and d * k <= 2000:
                            self.assertEqual(plain.sum_by_series(q, d, k), plain.power_sum(q, d, k))
            for k in (397, 398, 399, 400):
                self.assertEqual(plain.sum_by_series(q, 1, k), plain.power_sum(q, 1, k))
                self.assertEqual(plain.sum_by_series(q, 0, k), (1,))
        self.assertEqual(plain.sum_by_series(2, 5, 400), plain.power_sum(2, 5, 400))

    def test_limits(self):
        self.refuses(errors.TooMany, 400, plain.sum_by_series, 2, 0, 401)
        self.refuses(errors.TooMany, 400, plain.sum_by_series, 2, 5, 401)
        self.refuses(errors.TooMany, 400, plain.sum_by_series, 2, 9, 0)
        self.refuses(errors.TooMany, 400, plain.sum_by_series, 2, 300, LONGEST)
        self.refuses(errors.TooMany, 2000, plain.sum_by_series, 2, 6, 334)
        self.refuses(errors.TooMany, 2000, plain.sum_by_series, 2, 8, 251)
        self.assertEqual(plain.sum_by_series(2, 6, 333), plain.power_sum(2, 6, 333))
        # 343 and 2 ** 8 monic polynomials: the first ones are too many for one by one, not for the series.
        self.assertEqual(plain.sum_by_series(7, 3, 400), ())
        self.assertEqual(plain.sum_by_series(2, 8, 250), plain.power_sum(2, 8, 250))
        for q in FIELDS:
            d = max(d for d in range(9) if q ** d <= 400)
            self.refuses(errors.TooMany, 400, plain.sum_by_series, q, d + 1, 1)
            self.assertEqual(plain.sum_by_series(q, d, 1), ())

    def test_sums_below(self):
        for q in FIELDS:
            for d in range(0, 4 if q < 4 else 3):
                for k in range(0, 20):
                    total = ()
                    for a in slow_below(q, d):
                        if a:
                            total = slow_added(q, total, polys.power(q, a, k))
                    self.assertEqual(plain.sums_below(q, d, k), total)
                    told = ()
                    if k % (q - 1) == 0:
                        for i in range(d):
                            told = slow_less(q, told, plain.power_sum(q, i, k))
                    self.assertEqual(total, told)

    def test_limits_of_sums_below(self):
        most = {2: 8, 3: 5, 4: 4, 5: 3, 7: 2, 8: 2, 9: 2}
        for q in FIELDS:
            self.assertEqual(plain.sums_below(q, 0, LONGEST), ())
            self.assertEqual(plain.sums_below(q, 1, (q - 1) * 10 ** 50), minus(q, (1,)))
            self.assertEqual(plain.sums_below(q, 1, (q - 1) * 10 ** 50 + 1), minus(q, (1,)) if q == 2 else ())
            d = most[q] + 1
            self.assertEqual(plain.sums_below(q, d, 0), minus(q, (1,)))
            # The limits are those of the sum over the degree d - 1, also where the sum is 0 at once.
            for k in (0, 1, q - 1):
                self.refuses(errors.TooMany, 300, plain.sums_below, q, d + 1, k)
            self.refuses(errors.TooMany, 2000, plain.sums_below, q, 2, 2001)
            self.refuses(errors.TooMany, 2000, plain.sums_below, q, 3, 1001)
            self.refuses(errors.TooMany, 300, plain.sums_below, q, 300, LONGEST)
            self.assertEqual(len(plain.sums_below(q, 2, 2000)) <= 2001, True)


if __name__ == "__main__":
    unittest.main()

"""monicsums.sums.zeta: the points 7.1 to 7.10."""

import unittest

from monicsums import errors
from monicsums.digits import digits
from monicsums.ground import polys
from monicsums.ground.rows import row_power, row_sum
from monicsums.sums import plain, zeta
from tests.support import FIELDS, LONGEST, NO_COUNTS, NO_FIELDS, PRIMES, Case, Numbers, minus, no_polynomials
from tests.support import no_primes, rest_of, slow_added, slow_below, slow_less, slow_monics, slow_times, some_primes

NO_POWERS = NO_COUNTS + [0, 9, 10, LONGEST]
ROWS = [zeta.zeta_row, zeta.zeta_value]


def powers(most):
    """Fields, primes and n for which the size to the power n is at most `most`."""
    for q in FIELDS:
        for h in range(1, 7):
            for n in range(1, 9):
                if q ** (h * n) <= most:
                    for prime in some_primes(q, h, 2):
                        yield q, prime, n


def power_of_prime(q, prime, n):
    made = (1,)
    for _ in range(n):
        made = slow_times(q, made, prime)
    return made


def slow_rests(q, prime, n, k):
    """The rests of the sums, one by one."""
    modulus = power_of_prime(q, prime, n)
    found = []
    for d in range(n * (len(prime) - 1) + 1):
        total = ()
        for a in slow_monics(q, d):
            if rest_of(q, a, prime):
                total = slow_added(q, total, polys.power_rest(q, a, k, modulus))
        found.append(total)
    return tuple(found)


def is_one(q, a, m, modulus):
    return polys.power_rest(q, a, m, modulus) == (1,)


class Rows(Case):
    def test_examples(self):
        told = [((1,), (2,)), (), ((1,), (0, 1, 0, 2)), (1, 1, 0, 2), False, True]
        made = [zeta.zeta_row(3, 4), zeta.zeta_value(3, 4), zeta.zeta_row(3, 5), zeta.zeta_value(3, 5)]
        self.assertEqual(made + [zeta.does_vanish(4, 10 ** 30), zeta.does_vanish(5, 8)], told)
        self.assertEqual(zeta.MOST_ROW, 200)

    def test_rows_beside_sums_one_by_one(self):
        for q in FIELDS:
            for k in list(range(0, 30)) + [q ** 2 - 1, 63, 80, 99, 124, 127, 161, 199, 200]:
                row = zeta.zeta_row(q, k)
                most = digits.most_parts(q, k)
                self.assertEqual(len(row), most + 1)
                for d in range(most + 1 if k < 100 else min(most + 1, 4)):
                    self.assertEqual(row[d], plain.power_sum(q, d, k))
                    self.assertNotEqual(row[d], ())
                if q ** (most + 1) <= 300 and k < 50:
                    self.assertEqual(plain.power_sum(q, most + 1, k), ())

    def test_values(self):
        for q in FIELDS:
            bracket = slow_less(q, (0,) * q + (1,), (0, 1))
            for k in range(0, 201):
                total = ()
                for row in zeta.zeta_row(q, k):
                    total = row_sum(q, total, row)
                self.assertEqual(zeta.zeta_value(q, k), total)
                self.assertIs(total == (), zeta.does_vanish(q, k))
                self.assertIs(zeta.does_vanish(q, k), k > 0 and k % (q - 1) == 0)
                if total:
                    self.assertEqual(rest_of(q, total, bracket), (1,))
                if PRIMES[q] * k <= 200:
                    self.assertEqual(zeta.zeta_value(q, PRIMES[q] * k), row_power(q, total, PRIMES[q]))
            self.assertEqual((zeta.zeta_value(q, 0), zeta.zeta_row(q, 0)), ((1,), ((1,),)))

    def test_vanishing_of_long_numbers(self):
        for q in FIELDS:
            for k in (10 ** 59, LONGEST, LONGEST - LONGEST % (q - 1), (q - 1) * 10 ** 50 + 1):
                self.assertIs(zeta.does_vanish(q, k), k % (q - 1) == 0)

    def test_wrong_values(self):
        for call in ROWS:
            self.refuses_fields(call, 1)
            for q in FIELDS:
                self.refuses_in_order(call, (q, 1), [(errors.InvalidField, NO_FIELDS), (
                    errors.InvalidNumber, NO_COUNTS + [201, 202, 10 ** 10, LONGEST])])
        self.refuses_in_order(zeta.does_vanish, (3, 1), [
            (errors.InvalidField, NO_FIELDS), (errors.InvalidNumber, NO_COUNTS)])


class Periods(Case):
    def test_periods_are_least(self):
        for q, prime, n in powers(300):
            h = len(prime) - 1
            turn = zeta.period(q, prime, n)
            e = 0
            while PRIMES[q] ** e < n:
                e += 1
            self.assertEqual(turn, (q ** h - 1) * PRIMES[q] ** e)
            if q ** (h * n) > 81:
                continue
            modulus = power_of_prime(q, prime, n)
            units = [a for a in slow_below(q, h * n) if rest_of(q, a, prime)]
            # Of the divisors of the period only itself takes all units to 1.
            for m in [m for m in range(1, turn + 1) if turn % m == 0]:
                self.assertIs(all(is_one(q, a, m, modulus) for a in units), m == turn)

    def test_bars(self):
        for q, prime, n in powers(300):
            h = len(prime) - 1
            turn = zeta.period(q, prime, n)
            modulus = power_of_prime(q, prime, n)
            for m in (0, 1, 2, q ** h - 1, (q ** h - 1) * PRIMES[q], turn - 1, turn, turn + 1, LONGEST, 10 ** 59):
                bar = zeta.period_bar(q, prime, n, m)
                self.assertIs(bar is None, m % turn == 0)
                if bar is not None:
                    self.assertTrue(polys.is_polynomial(q, bar) and len(bar) <= n * h)
                    self.assertTrue(rest_of(q, bar, prime))
                    self.assertFalse(is_one(q, bar, m, modulus))
                    self.assertIs(zeta.is_period_bar(q, prime, n, m, bar), True)

    def test_each_bar_is_judged(self):
        for q, prime, n in powers(30):
            h = len(prime) - 1
            modulus = power_of_prime(q, prime, n)
            for m in range(0, 9):
                for a in slow_below(q, h * n):
                    told = bool(rest_of(q, a, prime)) and not is_one(q, a, m, modulus)
                    self.assertIs(zeta.is_period_bar(q, prime, n, m, a), told)
                for a in slow_monics(q, h * n)[:4]:
                    self.assertIs(zeta.is_period_bar(q, prime, n, m, a), False)
        for q in FIELDS:
            for value in no_polynomials(q) + [(True,), (0, True)]:
                self.assertIs(zeta.is_period_bar(q, (0, 1), 2, 1, value), False)
        # 2 and 1 + T are no first powers of 1, and 1 is one.
        told = [zeta.is_period_bar(3, (0, 1), 2, 1, a) for a in ((2,), (1, 1), (1,), (0, 1), (1, 1, 1))]
        self.assertEqual(told, [True, True, False, False, False])

    def test_wrong_values(self):
        for q in FIELDS:
            wrong = [(errors.InvalidField, NO_FIELDS), (errors.InvalidPolynomial, no_primes(q)),
                     (errors.InvalidNumber, NO_POWERS), (errors.InvalidNumber, NO_COUNTS)]
            self.refuses_in_order(zeta.period, (q, (0, 1), 1), wrong[:3])
            for call in (zeta.period_bar, zeta.zeta_rests):
                self.refuses_in_order(call, (q, (0, 1), 1, 1), wrong)
            self.refuses_in_order(zeta.is_period_bar, (q, (0, 1), 1, 1, (1,)), wrong)
            self.refuses_in_order(zeta.power_sum_rest, (q, (0, 1), 1), wrong[:2] + wrong[3:])

    def test_limits(self):
        for q in FIELDS:
            for h in range(1, 7):
                prime = some_primes(q, h, 1)[0]
                for n in range(1, 9):
                    if q ** (h * n) <= 300:
                        self.assertEqual(len(zeta.zeta_rests(q, prime, n, 0)), n * h + 1)
                        continue
                    self.refuses(errors.TooMany, 300, zeta.period, q, prime, n)
                    for call in (zeta.period_bar, zeta.zeta_rests):
                        self.refuses(errors.TooMany, 300, call, q, prime, n, 1)
                        self.refuses_number(-1, call, q, prime, n, -1)
                    self.refuses(errors.TooMany, 300, zeta.is_period_bar, q, prime, n, 1, None)
                    self.refuses_number(True, zeta.is_period_bar, q, prime, n, True, None)
                # The sum of powers modulo the prime itself has no limit.
                self.assertEqual(zeta.power_sum_rest(q, prime, q ** h - 1), minus(q, (1,)))
        self.assertEqual(zeta.period(2, (1, 1, 1), 4), 12)
        self.assertEqual(zeta.period(2, (0, 1), 8), 8)


class Rests(Case):
    def test_beside_sums_one_by_one(self):
        for q, prime, n in powers(64):
            turn = zeta.period(q, prime, n)
            for k in (0, 1, n - 1, n, q ** n - 1, turn - 1, turn, turn + 3, LONGEST):
                told = zeta.zeta_rests(q, prime, n, k)
                self.assertEqual(told, slow_rests(q, prime, n, k))
                # The last one is the sum over all rests that the prime does not divide.
                modulus = power_of_prime(q, prime, n)
                total = ()
                for a in slow_below(q, n * (len(prime) - 1)):
                    if rest_of(q, a, prime):
                        total = slow_added(q, total, polys.power_rest(q, a, k, modulus))
                self.assertEqual(told[-1], total)

    def test_periods_of_rows(self):
        for q, prime, n in powers(300):
            turn = zeta.period(q, prime, n)
            numbers = Numbers(q + n)
            for k in (0, 1, numbers.below(turn), numbers.below(10 ** 30)):
                told = zeta.zeta_rests(q, prime, n, k)
                for times in (1, 2, 10 ** 20):
                    self.assertEqual(zeta.zeta_rests(q, prime, n, k + times * turn), told)

    def test_by_sums_of_powers(self):
        for q, prime, n in powers(90):
            h = len(prime) - 1
            modulus = power_of_prime(q, prime, n)
            for k in (0, 1, 2, n, n + 1, 2 * q - 2):
                told = zeta.zeta_rests(q, prime, n, k)
                for d in range(n * h + 1):
                    made = plain.power_sum(q, d, k)
                    if d >= h:
                        part = slow_times(q, power_of_prime(q, prime, k), plain.power_sum(q, d - h, k))
                        made = slow_less(q, made, part)
                    self.assertEqual(told[d], rest_of(q, made, modulus))
                    if k >= n:
                        self.assertEqual(told[d], rest_of(q, plain.power_sum(q, d, k), modulus))

    def test_sums_of_all_rests(self):
        for q, prime, n in powers(81):
            if n > 1:
                continue
            size = q ** (len(prime) - 1)
            for k in list(range(0, 7)) + [size - 2, size - 1, size, 2 * size - 2, (size - 1) * 10 ** 40]:
                total = ()
                for a in slow_below(q, len(prime) - 1):
                    total = slow_added(q, total, polys.power_rest(q, a, k, prime) if a or k == 0 else ())
                self.assertEqual(zeta.power_sum_rest(q, prime, k), total)

    def test_what_is_not_true(self):
        # Z(1, 2) is 0 for q = 3, and Z(X, 2) is 1 at X = 0 and not 0 at X = 2: it is 1 + 2 X there.
        self.assertEqual((zeta.zeta_value(3, 2), zeta.zeta_row(3, 2)), ((), ((1,), (2,))))
        # Z(1, 1) and Z(1, 3) are 1 for q = 3, and 8 does not divide 2.
        self.assertEqual((zeta.zeta_value(3, 1), zeta.zeta_value(3, 3)), ((1,), (1,)))
        # The period modulo prime ** 3 is less than (size - 1) * size ** 2.
        self.assertEqual(zeta.period(3, (0, 1), 3), 2 * 3)


if __name__ == "__main__":
    unittest.main()

"""monicsums.below.reciprocals: the points 16.1 to 16.8."""

import unittest

from monicsums import errors
from monicsums.below import reciprocals
from monicsums.digits import digits
from monicsums.ground import polys
from monicsums.ground.quotients import lowest, sum_of_quotients
from monicsums.ground.rows import row_common_divisor, row_divided, row_power
from monicsums.sums import plain
from tests.support import FIELDS, LONGEST, NO_COUNTS, POWERS, PRIMES, TOO_LONG, Case, Numbers, minus, slow_monics

ONE = (1,)
ZERO = ((), ONE)
BOTH = (reciprocals.reciprocal_sum, reciprocals.reciprocal_by_series)
ALL = BOTH + (reciprocals.below_degree, reciprocals.step_row_below)
# For each field and d the greatest k up to 100 that is told.
MOST = {
    2: [100, 100, 100, 100, 66, 32, 15, 7, 3], 3: [100, 100, 100, 51, 16, 5], 4: [100, 100, 100, 23, 5],
    5: [100, 100, 66, 12], 7: [100, 100, 35], 8: [100, 100, 27], 9: [100, 100, 22],
}


def plain_sum(q, d, k):
    """S(d, -k), one by one."""
    total = ZERO
    for a in slow_monics(q, d):
        total = sum_of_quotients(q, total, (ONE, row_power(q, a, k)))
    return total


def size_below(one):
    return len(one[1]) - len(one[0])


def slow_step(q, k):
    """The least number that 16.5 tells, one by one."""
    p = PRIMES[q]
    j = q - 1
    while digits.carries(p, k - 1, j):
        j += q - 1
    return k + j


class Sums(Case):
    def test_examples(self):
        made = [
            reciprocals.reciprocal_sum(3, 1, 1), reciprocals.reciprocal_sum(3, 1, 2),
            reciprocals.below_degree(3, 2, 1), reciprocals.first_step(3, 2),
            reciprocals.first_step(3, 10 ** 20) > 10 ** 20,
        ]
        self.assertEqual(made, [((2,), (0, 2, 0, 1)), ((1,), (0, 0, 1, 0, 1, 0, 1)), 12, 6, True])
        self.assertEqual((reciprocals.MAX_TOLD_POWER, reciprocals.MAX_STEPS), (100, 100))

    def test_by_two_roads_and_one_by_one(self):
        for q in FIELDS:
            for d, most in enumerate(MOST[q]):
                numbers = Numbers(100 * q + d)
                known = {1, 2, 3, q, q + 1, most} | {1 + numbers.below(most) for _ in range(6)}
                for k in [one for one in sorted(known) if one <= most]:
                    made = reciprocals.reciprocal_sum(q, d, k)
                    self.assertEqual(made, reciprocals.reciprocal_by_series(q, d, k))
                    self.assertEqual(row_common_divisor(q, *made), ONE)
                    self.assertEqual(made[1][-1], 1)
                    self.assertEqual(reciprocals.below_degree(q, d, k), size_below(made))
                    if q ** d * k * d < 400:
                        self.assertEqual(made, plain_sum(q, d, k))

    def test_all_small_ones(self):
        for q in FIELDS:
            for k in range(1, 30):
                self.assertEqual(reciprocals.reciprocal_sum(q, 0, k), (ONE, ONE))
                self.assertEqual(reciprocals.reciprocal_by_series(q, 0, k), (ONE, ONE))
                made = plain_sum(q, 1, k)
                self.assertEqual(reciprocals.reciprocal_sum(q, 1, k), made)
                self.assertEqual(reciprocals.reciprocal_by_series(q, 1, k), made)

    def test_bottoms(self):
        for q in FIELDS:
            for d, most in enumerate(MOST[q]):
                for k in [one for one in (1, 2, 5, 7, 13, most) if one <= most]:
                    made = reciprocals.reciprocal_sum(q, d, k)
                    self.assertNotEqual(made, ZERO)
                    whole = row_power(q, plain.least_multiple(q, d), k)
                    self.assertEqual(row_divided(q, whole, made[1])[1], ())

    def test_powers(self):
        for q in FIELDS:
            p = PRIMES[q]
            for d, most in enumerate(MOST[q]):
                top = ONE if d % 2 == 0 else minus(q, ONE)
                first = (top, plain.least_multiple(q, d))
                for call in BOTH:
                    self.assertEqual(call(q, d, 1), first)
                    for k in range(1, min(q, most) + 1):
                        self.assertEqual(call(q, d, k), tuple(row_power(q, part, k) for part in first))
                    for k in (1, 2, q + 1, 2 * q + 1, 11):
                        if p * k <= most:
                            raised = tuple(row_power(q, part, p) for part in call(q, d, k))
                            self.assertEqual(call(q, d, p * k), raised)

    def test_where_it_ends(self):
        for call in ALL:
            for q in FIELDS:
                for d, most in enumerate(MOST[q]):
                    # The degree of L(d) ** k is at most 2000 up to this k.
                    degree = sum(q ** j for j in range(1, d + 1))
                    self.assertTrue(most == 100 or degree * most <= 2000 < degree * (most + 1))
                    call(q, d, most)
                    if most < 100:
                        self.refuses(errors.TooMany, 2000, call, q, d, most + 1)
                        self.refuses(errors.TooMany, 2000, call, q, d, 100)
                    self.refuses_number(101, call, q, d, 101)
                for d in (len(MOST[q]), 10, 300, 301, 10 ** 6, LONGEST):
                    self.refuses(errors.TooMany, 300, call, q, d, 1)
                    self.refuses(errors.TooMany, 300, call, q, d, 100)
                    self.refuses_number(101, call, q, d, 101)
        # 2 ** 8 and 4 ** 4 are 256, 7 ** 3 is 343; the degree of L(2) ** 100 over four elements is just 2000.
        self.assertEqual([len(MOST[q]) for q in FIELDS], [9, 6, 5, 4, 3, 3, 3])
        self.assertEqual(len(row_power(4, plain.least_multiple(4, 2), 100)), 2001)

    def test_wrong_values(self):
        for call in ALL:
            self.refuses_fields(call, 1, 1)
            wrong = (errors.InvalidNumber, NO_COUNTS), (errors.InvalidNumber, NO_COUNTS + [0, 101, LONGEST])
            for q in FIELDS:
                self.refuses_in_order(lambda d, k, q=q, call=call: call(q, d, k), (1, 1), wrong)


class Steps(Case):
    def test_first_step(self):
        for q in FIELDS:
            for k in range(1, 101):
                made = reciprocals.first_step(q, k)
                self.assertEqual(made, reciprocals.below_degree(q, 1, k))
                self.assertEqual(made, slow_step(q, k))
                self.assertGreater(made, k)

    def test_long_ones(self):
        for q in FIELDS:
            p = PRIMES[q]
            for k in (LONGEST, 10 ** 59, 10 ** 20, 10 ** 59 + 12345678901234567890, p ** 60, p ** 60 + 1, 2 ** 190):
                j = reciprocals.first_step(q, k) - k
                self.assertTrue(j > 0 and j % (q - 1) == 0)
                self.assertEqual(digits.carries(p, k - 1, j), 0)
                # Each lower multiple of q - 1 has carries: it is enough to look at those with few digits.
                for lower in range(q - 1, min(j, 3000), q - 1):
                    self.assertGreater(digits.carries(p, k - 1, lower), 0)
            for n in (1, 5, 40):
                # All places below are full.
                if POWERS[q] == 1:
                    self.assertEqual(reciprocals.first_step(q, q ** n), q ** (n + 1))

    def test_by_steps(self):
        for q in (2, 3, 5, 7):
            for d, most in enumerate(MOST[q]):
                for k in range(1, most + 1, 1 if d < 3 else 7):
                    made = reciprocals.degree_by_steps(q, d, k)
                    self.assertEqual(made, reciprocals.below_degree(q, d, k))
            for k in (1, 17, 10 ** 59, LONGEST):
                total, step = 0, k
                self.assertEqual(reciprocals.degree_by_steps(q, 0, k), 0)
                for d in range(1, 101):
                    if step <= LONGEST:
                        step = reciprocals.first_step(q, step)
                        total += step
                        self.assertEqual(reciprocals.degree_by_steps(q, d, k), total)
                # The numbers on the way may be longer than sixty digits.
                made = [reciprocals.degree_by_steps(q, d, k) for d in (98, 99, 100)]
                self.assertGreater(made[2] - made[1], made[1] - made[0])
            self.assertGreater(reciprocals.degree_by_steps(q, 100, LONGEST), TOO_LONG)

    def test_row(self):
        self.assertEqual(reciprocals.step_row_below(3, 2, 1), (3, 9))
        for q in FIELDS:
            for d, most in enumerate(MOST[q]):
                for k in [one for one in (1, 2, 4, 7, 9, 15, 27, 63, 75, most) if one <= most]:
                    row = reciprocals.step_row_below(q, d, k)
                    self.assertEqual(len(row), d)
                    self.assertTrue(all(one < other for one, other in zip((0,) + row, row)))
                    for i in range(d + 1):
                        self.assertEqual(sum(row[:i]), reciprocals.below_degree(q, i, k))

    def test_wrong_values(self):
        self.refuses_fields(reciprocals.first_step, 1)
        self.refuses_fields(reciprocals.degree_by_steps, 1, 1)
        for q in FIELDS:
            self.refuses_in_order(
                lambda k, q=q: reciprocals.first_step(q, k), (1,), ((errors.InvalidNumber, NO_COUNTS + [0]),)
            )
            wrong = (errors.InvalidNumber, NO_COUNTS + [101, 300, LONGEST]), (errors.InvalidNumber, NO_COUNTS + [0])
            if POWERS[q] == 1:
                self.refuses_in_order(lambda d, k, q=q: reciprocals.degree_by_steps(q, d, k), (100, 1), wrong)
            else:
                # That q is no prime comes behind all else.
                for d in wrong[0][1]:
                    self.refuses_number(d, reciprocals.degree_by_steps, q, d, 0)
                for k in wrong[1][1]:
                    self.refuses_number(k, reciprocals.degree_by_steps, q, 1, k)
                for d, k in ((0, 1), (100, 1), (3, LONGEST)):
                    self.refuses(errors.Refused, ("prime",), reciprocals.degree_by_steps, q, d, k)


class NotTrue(Case):
    def test_the_first_step_does_not_rise(self):
        for q in FIELDS:
            told = [reciprocals.first_step(q, k) for k in range(1, 101)]
            self.assertTrue(any(one >= other for one, other in zip(told, told[1:])))
        self.assertTrue(any(reciprocals.first_step(3, k) > reciprocals.first_step(3, k + 1) for k in range(1, 100)))

    def test_sums_are_no_powers_of_the_first_one(self):
        for q in FIELDS:
            found = [k for k in range(1, 30) if reciprocals.reciprocal_sum(q, 1, k) != tuple(
                polys.power(q, part, k) for part in reciprocals.reciprocal_sum(q, 1, 1)
            )]
            self.assertTrue(found and found[0] > q)
            made = reciprocals.reciprocal_sum(q, 1, found[0])
            # Powers of -1 / L(1) have elements as tops.
            self.assertGreater(len(made[0]), 1)

    def test_steps_do_not_hold_for_each_field(self):
        one = reciprocals.first_step(4, 75)
        self.assertEqual(one + reciprocals.first_step(4, one), 480)
        self.assertEqual(reciprocals.below_degree(4, 2, 75), 348)
        self.assertEqual(size_below(lowest(4, *reciprocals.reciprocal_sum(4, 2, 75))), 348)


if __name__ == "__main__":
    unittest.main()

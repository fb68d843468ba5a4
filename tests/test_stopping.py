"""monicsums.below.stopping: the points 18.1 to 18.5."""

import unittest

from monicsums import errors
from monicsums.below import reciprocals, stopping
from monicsums.ground.quotients import is_quotient, lowest, sum_of_quotients
from monicsums.ground.rows import row_power, row_product, row_sum
from monicsums.ring import carlitz
from monicsums.series import bernoulli
from monicsums.sums import plain
from tests.support import FIELDS, LONGEST, NO_COUNTS, Case, slow_monics

ONE = (1,)
ZERO = ((), ONE)
# For each field the greatest j for which q ** j is at most 16.
MOST = {2: 4, 3: 2, 4: 2, 5: 1, 7: 1, 8: 1, 9: 1}


def times(q, one, other):
    return lowest(q, row_product(q, one[0], other[0]), row_product(q, one[1], other[1]))


def raised(q, one, k):
    return row_power(q, one[0], k), row_power(q, one[1], k)


def action(q, a):
    """C_a(x) as the list of its coefficients in x."""
    made = [() for _ in range(q ** (len(a) - 1) + 1)]
    for i in range(len(a)):
        made[q ** i] = carlitz.carlitz_coefficient(q, a, i)
    return made


def list_times(q, one, other):
    made = [() for _ in range(len(one) + len(other) - 1)]
    for i, a in enumerate(one):
        for j, b in enumerate(other):
            if a and b:
                made[i + j] = row_sum(q, made[i + j], row_product(q, a, b))
    return made


def slow_inner(q, m, j):
    """The inner sum, word for word."""
    total = [ZERO for _ in range(m * q ** j + 1)]
    for a in slow_monics(q, j):
        made = [ONE]
        for _ in range(m):
            made = list_times(q, made, action(q, a))
        total = [sum_of_quotients(q, one, lowest(q, top, a)) for one, top in zip(total, made)]
    return tuple(total)


def part_by_inner(q, m, n):
    """The part n, by the inner sums, as a list of quotients."""
    total = [ZERO for _ in range(m * q ** n + 1)]
    for i in range(n + 1):
        factor = bernoulli.exp_coefficient(q, i)
        for at, one in enumerate(stopping.inner_sum(q, m, n - i)):
            part = times(q, factor, raised(q, one, q ** i))
            total[at * q ** i] = sum_of_quotients(q, total[at * q ** i], part)
    return total


def put_in(q, m, most):
    """The coefficients at z, z ** q, .. where the series in z is put into the exponential, up to z ** (q ** most)."""
    series = {q ** j: dict(enumerate(stopping.inner_sum(q, m, j))) for j in range(most + 1)}
    found = {q ** n: {} for n in range(most + 1)}
    for i in range(most + 1):
        # The power q ** i of a sum is the sum of the powers.
        for place, terms in series.items():
            where = found.get(place * q ** i)
            if where is not None:
                for at, one in terms.items():
                    part = times(q, bernoulli.exp_coefficient(q, i), raised(q, one, q ** i))
                    where[at * q ** i] = sum_of_quotients(q, where.get(at * q ** i, ZERO), part)
    return [found[q ** n] for n in range(most + 1)]


class Inner(Case):
    def test_word_for_word(self):
        for q in FIELDS:
            for j in range(MOST[q] + 1):
                for m in range(1, 10):
                    if m * q ** (2 * j) <= 400:
                        self.assertEqual(stopping.inner_sum(q, m, j), slow_inner(q, m, j))
        self.assertEqual((stopping.MOST_TIMES, stopping.MOST_SPAN), (9, 16))

    def test_coefficients(self):
        for q in FIELDS:
            for j in range(MOST[q] + 1):
                for m in range(1, 10):
                    made = stopping.inner_sum(q, m, j)
                    self.assertIsInstance(made, tuple)
                    self.assertEqual(len(made), m * q ** j + 1)
                    self.assertTrue(all(is_quotient(q, one) for one in made))
                    self.assertEqual(made[-1], reciprocals.reciprocal_sum(q, j, 1))
                    self.assertNotEqual(made[-1], ZERO)
                    self.assertEqual(made[m], (plain.power_sum(q, j, m - 1), ONE))
                    for at, one in enumerate(made):
                        if (at - m) % (q - 1) != 0:
                            self.assertEqual(one, ZERO)

    def test_long_ones(self):
        # Over two elements with j = 3 and 4, where it is long, some of the coefficients.
        for m, j in ((9, 4), (7, 4), (6, 3), (5, 4)):
            made = stopping.inner_sum(2, m, j)
            total = [ZERO for _ in made]
            for a in slow_monics(2, j):
                power = [ONE]
                for _ in range(m):
                    power = list_times(2, power, action(2, a))
                for at in (m, m + 1, m + 2, m * 2 ** j, m * 2 ** j - 1, (m + m * 2 ** j) // 2):
                    total[at] = sum_of_quotients(2, total[at], lowest(2, power[at], a))
            for at in (m, m + 1, m + 2, m * 2 ** j, m * 2 ** j - 1, (m + m * 2 ** j) // 2):
                self.assertEqual(made[at], total[at])


class Parts(Case):
    def test_examples(self):
        made = [
            stopping.stopping_part(2, 1, 0), stopping.stopping_part(2, 1, 1), stopping.stopping_part(2, 2, 1),
            stopping.stopping_end(2, 4), stopping.stopping_end(3, 4),
        ]
        self.assertEqual(made, [((), (1,)), (), ((), (), (1,)), 3, 1])

    def test_by_inner_sums(self):
        for q in FIELDS:
            for n in range(MOST[q] + 1):
                for m in range(1, 10):
                    made = stopping.stopping_part(q, m, n)
                    if m * q ** n <= 64:
                        total = part_by_inner(q, m, n)
                        self.assertTrue(all(bottom == ONE for _, bottom in total))
                        tops = [top for top, _ in total]
                        while tops and tops[-1] == ():
                            tops.pop()
                        self.assertEqual(made, tuple(tops))
                    self.assertTrue(made == () or made[-1] != ())

    def test_put_into_the_exponential(self):
        for q, m, most in ((2, 1, 3), (2, 3, 2), (2, 4, 2), (3, 2, 1), (3, 4, 2), (4, 5, 1), (5, 6, 1), (9, 9, 1)):
            for n, terms in enumerate(put_in(q, m, most)):
                part = stopping.stopping_part(q, m, n)
                for at, one in terms.items():
                    self.assertEqual(one, (part[at] if at < len(part) else (), ONE))

    def test_all_parts_above_the_end_are_0(self):
        for q in FIELDS:
            for m in range(1, 10):
                end = stopping.stopping_end(q, m)
                self.assertEqual(end, (m - 1) // (q - 1))
                for n in range(MOST[q] + 1):
                    if n > end:
                        self.assertEqual(stopping.stopping_part(q, m, n), ())

    def test_rows(self):
        for q in FIELDS:
            for m in range(1, 10):
                end = stopping.stopping_end(q, m)
                if end > MOST[q]:
                    self.refuses(errors.TooMany, 16, stopping.stopping_row, q, m)
                    continue
                row = stopping.stopping_row(q, m)
                self.assertEqual(row, tuple(stopping.stopping_part(q, m, n) for n in range(end + 1)))
                self.assertEqual(row[0], ((),) * m + (ONE,))
                if m < q:
                    self.assertEqual(len(row), 1)
        self.refuses(errors.TooMany, 16, stopping.stopping_row, 2, 6)
        self.refuses(errors.TooMany, 16, stopping.stopping_row, 3, 7)
        self.refuses(errors.TooMany, 16, stopping.stopping_row, 5, 9)

    def test_exponents(self):
        for q in FIELDS:
            for n in range(MOST[q] + 1):
                for m in range(1, 10):
                    part = stopping.stopping_part(q, m, n)
                    for at, one in enumerate(part):
                        if (at - m) % (q - 1) != 0:
                            self.assertEqual(one, ())
                    if n > 0:
                        self.assertLessEqual(len(part), m * q ** n)

    def test_the_last_coefficients_add_up_to_0(self):
        for q in FIELDS:
            for n in range(1, MOST[q] + 1):
                total = ZERO
                for i in range(n + 1):
                    part = raised(q, reciprocals.reciprocal_sum(q, n - i, 1), q ** i)
                    total = sum_of_quotients(q, total, times(q, bernoulli.exp_coefficient(q, i), part))
                self.assertEqual(total, ZERO)


class Errors(Case):
    def test_wrong_values(self):
        times_wrong = NO_COUNTS + [0, 10, 11, LONGEST]
        for call in (stopping.inner_sum, stopping.stopping_part):
            self.refuses_fields(call, 1, 1)
            for q in FIELDS:
                self.refuses_in_order(
                    lambda m, j, q=q, call=call: call(q, m, j), (9, 0),
                    ((errors.InvalidNumber, times_wrong), (errors.InvalidNumber, NO_COUNTS)),
                )
        for call in (stopping.stopping_end, stopping.stopping_row):
            self.refuses_fields(call, 1)
            for q in FIELDS:
                self.refuses_in_order(lambda m, q=q, call=call: call(q, m), (1,), ((errors.InvalidNumber, times_wrong),))

    def test_where_it_ends(self):
        for call in (stopping.inner_sum, stopping.stopping_part):
            for q in FIELDS:
                self.assertTrue(q ** MOST[q] <= 16 < q ** (MOST[q] + 1))
                for m in (1, 9):
                    call(q, m, MOST[q])
                    for j in (MOST[q] + 1, 5, 300, 10 ** 6, LONGEST):
                        self.refuses(errors.TooMany, 16, call, q, m, j)
                self.refuses_number(10, call, q, 10, 99)
                self.assertEqual(call(q, 9, 0)[9:], (ONE,) if call is stopping.stopping_part else ((ONE, ONE),))


class NotTrue(Case):
    def test_inner_sums_above_the_end_are_other_than_0(self):
        for q in FIELDS:
            self.assertEqual(stopping.stopping_end(q, 1), 0)
            self.assertNotEqual(stopping.inner_sum(q, 1, 1)[-1], ZERO)

    def test_inner_sums_are_not_whole(self):
        for q in FIELDS:
            self.assertNotEqual(stopping.inner_sum(q, 1, 1)[-1][1], ONE)

    def test_a_part_with_two_powers(self):
        self.assertEqual(stopping.stopping_part(2, 3, 1), ((), (), (), (1,), (1,)))


if __name__ == "__main__":
    unittest.main()

"""monicsums.sums.degrees: the points 6.1 to 6.8."""

import unittest

from monicsums import errors
from monicsums.digits import digits
from monicsums.ground import fields, polys
from monicsums.sums import degrees, partings, plain
from tests.support import FIELDS, LONGEST, NO_COUNTS, PRIMES, TOO_LONG, Case, Numbers

NO_DEGREES = NO_COUNTS + [301, LONGEST]
ROWS = [degrees.degree_row, degrees.leading_row, degrees.step_row, degrees.zero_leads]
FAR = [LONGEST, 10 ** 59, 6 * 10 ** 59, 2 ** 199 - 1, 3 ** 125 - 1, 5 ** 85 + 4, 7 ** 70 * 6 + 7 ** 3 * 6]


def most_summed(q):
    """The greatest d for which all monic polynomials of degree d are summed one by one."""
    return max(d for d in range(9) if q ** d <= 300)


def far_rows(q):
    """Numbers of many digits and their most parts."""
    return [(k, digits.most_parts(q, k)) for k in FAR]


class Degrees(Case):
    def test_examples(self):
        told = [(0, 12, 12), (12, 0), (1, 1, 2), (2, 1)]
        calls = (degrees.degree_row, degrees.step_row, degrees.leading_row, degrees.zero_leads)
        self.assertEqual([call(3, 16) for call in calls], told)
        self.assertEqual((degrees.sum_degree(3, 1, 18), degrees.sum_degree(3, 3, 16)), (0, -1))

    def test_beside_sums_one_by_one(self):
        for q in FIELDS:
            for d in range(0, most_summed(q) + 1):
                step = 1 if d < 3 else 7
                for k in list(range(0, 90, step)) + [q ** d - 1, q ** (d + 1) - 1, 2 * q ** d - 2]:
                    if d * k <= 1000:
                        made = plain.power_sum(q, d, k)
                        self.assertEqual(degrees.sum_degree(q, d, k), len(made) - 1)
                        self.assertEqual(degrees.leading(q, d, k), made[-1] if made else 0)
                        self.assertIs(made == (), d > digits.most_parts(q, k))

    def test_rows(self):
        for q in FIELDS:
            for k in list(range(0, 120)) + [q ** 4 - 1, q ** 5 - 1]:
                most = digits.most_parts(q, k)
                row, leads = degrees.degree_row(q, k), degrees.leading_row(q, k)
                self.assertEqual(row, tuple(degrees.sum_degree(q, d, k) for d in range(most + 1)))
                self.assertEqual(leads, tuple(degrees.leading(q, d, k) for d in range(most + 1)))
                steps = degrees.step_row(q, k)
                self.assertEqual(steps, tuple(row[d + 1] - row[d] for d in range(most)))
                self.assertEqual(list(steps), sorted(set(steps), reverse=True))
                self.assertEqual((row[0], leads[0], len(leads)), (0, 1, most + 1))
                told = []
                for d in range(most):
                    opposite = fields.element_less(q, 0, leads[d])
                    told.append(fields.element_product(q, opposite, fields.element_inverse(q, leads[d + 1])))
                self.assertEqual(degrees.zero_leads(q, k), tuple(told))
            self.assertEqual([call(q, 0) for call in ROWS], [(0,), (1,), (), ()])

    def test_is_degree(self):
        for q in FIELDS:
            for d, k in ((0, 5), (1, 4 * q - 1), (1, 63), (2, 80), (2, 8 * q - 1), (3, q ** 3 - 1)):
                degree = degrees.sum_degree(q, d, k)
                try:
                    told = partings.all_partings(q, d, k)
                except errors.TooMany:
                    continue
                for members in told:
                    exponent = sum(at * member for at, member in enumerate(members))
                    self.assertLessEqual(exponent, degree)
                    self.assertIs(degrees.is_degree(q, d, k, members), exponent == degree)
            for k, most in far_rows(q):
                for d in (0, 1, most):
                    if d <= most:
                        greatest = partings.greatest_parting(q, d, k)
                        self.assertIs(degrees.is_degree(q, d, k, greatest), True)
                        # Two unlike members ahead of the last one are exchanged.
                        other = greatest[1::-1] + greatest[2:]
                        if d > 1 and other != greatest:
                            self.assertIs(degrees.is_degree(q, d, k, other), False)
        self.assertIs(degrees.is_degree(2, 2, 7, (1, 2, 4)), True)
        self.assertIs(degrees.is_degree(2, 2, 7, (2, 1, 4)), False)

    def test_wrong_values(self):
        for call in (degrees.sum_degree, degrees.leading):
            self.refuses_fields(call, 1, 1)
        for call in ROWS:
            self.refuses_fields(call, 1)
        self.refuses_fields(degrees.is_degree, 1, 1, (1, 0))
        for q in FIELDS:
            for d in NO_DEGREES:
                for call in (degrees.sum_degree, degrees.leading):
                    self.refuses_number(d, call, q, d, 1)
                    self.refuses_number(d, call, q, d, -1)
                self.refuses_number(d, degrees.is_degree, q, d, None, None)
            for k in NO_COUNTS:
                for call in (degrees.sum_degree, degrees.leading):
                    self.refuses_number(k, call, q, 1, k)
                    self.refuses_number(k, call, q, 300, k)
                for call in ROWS:
                    self.refuses_number(k, call, q, k)
                self.refuses_number(k, degrees.is_degree, q, 0, k, (k,))
            for value in NO_COUNTS + [(1, 2), (7, 0, 0), [1, 2, 4], (1, 2, 4, 0), (3, 3, 1)]:
                self.refuses(errors.InvalidParting, None, degrees.is_degree, q, 2, 7, value)
        self.refuses(errors.InvalidParting, None, degrees.is_degree, 2, 0, 1, (True,))


def thin_and_full(q):
    """Numbers of sixty digits or nearly so: with few digits in base q, with many, and one below a power of q."""
    p = PRIMES[q]
    most = max(n for n in range(250) if q ** n < TOO_LONG)
    yield q ** most + q ** (most // 2) + q ** 3 + 1
    yield sum((1 + at % (q - 1)) * q ** (most - 7 * at - 1) for at in range(most // 7))
    yield sum(p ** at for at in range(0, 200, 5) if p ** (at + 1) < TOO_LONG)
    yield q ** most - 1
    yield q ** most - 2 - q ** (most // 3)
    yield LONGEST
    yield Numbers(q + 150).below(TOO_LONG)
    yield Numbers(q + 151).below(10 ** 40)


class EachDegree(Case):
    def check_rows(self, q, k):
        """The rows tell, degree by degree, what is told for each degree alone, and what its greatest parting tells."""
        most = digits.most_parts(q, k)
        found = [degrees.sum_degree(q, d, k) for d in range(most + 1)]
        leads = [degrees.leading(q, d, k) for d in range(most + 1)]
        self.assertEqual(degrees.leading_row(q, k), tuple(leads))
        self.assertEqual(degrees.step_row(q, k), tuple(found[d + 1] - found[d] for d in range(most)))
        if max(found) < TOO_LONG:
            self.assertEqual(degrees.degree_row(q, k), tuple(found))
        else:
            self.refuses(errors.TooMany, 60, degrees.degree_row, q, k)
        told = []
        for d in range(most):
            opposite = fields.element_less(q, 0, leads[d])
            told.append(fields.element_product(q, opposite, fields.element_inverse(q, leads[d + 1])))
        self.assertEqual(degrees.zero_leads(q, k), tuple(told))
        for d in range(most + 1):
            members = partings.greatest_parting(q, d, k)
            self.assertIs(partings.is_parting(q, d, k, members), True)
            self.assertEqual(found[d], sum(at * member for at, member in enumerate(members)))
            number = digits.multinomial_rest(PRIMES[q], members)
            self.assertEqual(leads[d], (number if d % 2 == 0 else -number) % PRIMES[q])

    def test_long_numbers(self):
        for q in FIELDS:
            for k in thin_and_full(q):
                self.check_rows(q, k)

    def test_small_numbers(self):
        for q in FIELDS:
            for k in list(range(0, 260)) + [q ** 4 - 1, q ** 5 + q ** 2, 2777, 1261]:
                self.check_rows(q, k)

    def test_sums_that_hang_on_the_degree(self):
        # What the members ahead add up to is not the same for all degrees: 181 over four elements.
        one, other = partings.greatest_parting(4, 1, 181), partings.greatest_parting(4, 2, 181)
        self.assertNotEqual(one[0], other[0])
        self.check_rows(4, 181)

    def test_each_greatest_parting_is_the_greatest(self):
        for q in FIELDS:
            for k in list(range(0, 64)) + [79, 80, 124, 181, 215]:
                for d in range(0, min(digits.most_parts(q, k), 3) + 1):
                    try:
                        told = partings.all_partings(q, d, k)
                    except errors.TooMany:
                        continue
                    greatest = max(told, key=lambda members: members[::-1])
                    self.assertEqual(partings.greatest_parting(q, d, k), greatest)


class Far(Case):
    def test_sixty_digits(self):
        for q in FIELDS:
            p = PRIMES[q]
            for k, most in far_rows(q):
                steps, leads = degrees.step_row(q, k), degrees.leading_row(q, k)
                self.assertEqual((len(steps), len(leads)), (most, most + 1))
                self.assertTrue(all(one > other for one, other in zip(steps, steps[1:])))
                self.assertTrue(all(1 <= lead <= p - 1 for lead in leads))
                self.assertEqual(len(degrees.zero_leads(q, k)), most)
                for d in (0, most // 2, most, most + 1, 300):
                    degree, lead = degrees.sum_degree(q, d, k), degrees.leading(q, d, k)
                    if d > most:
                        self.assertEqual((degree, lead), (-1, 0))
                    else:
                        self.assertEqual((degree, lead), (sum(steps[:d]), leads[d]))

    def test_each_degree(self):
        for q in FIELDS:
            most = digits.most_parts(q, LONGEST)
            for d in range(0, 301):
                self.assertIs(degrees.sum_degree(q, d, LONGEST) == -1, d > most)
                self.assertIs(degrees.leading(q, d, LONGEST) == 0, d > most)

    def test_too_long_ones(self):
        """A degree of more than sixty digits is not told in a row; steps and elements are never so long."""
        for q in FIELDS:
            for k, most in far_rows(q):
                longest = max(degrees.sum_degree(q, d, k) for d in range(most + 1))
                if longest >= TOO_LONG:
                    self.refuses(errors.TooMany, 60, degrees.degree_row, q, k)
                else:
                    self.assertEqual(degrees.degree_row(q, k)[0], 0)
            self.refuses(errors.TooMany, 60, degrees.degree_row, q, LONGEST - LONGEST % (q - 1))
            self.refuses_number(TOO_LONG, degrees.degree_row, q, TOO_LONG)

    def test_prime_powers(self):
        for q in FIELDS:
            p = PRIMES[q]
            numbers = Numbers(q + 140)
            for _ in range(10):
                k = numbers.below(10 ** 20)
                row, leads = degrees.degree_row(q, k), degrees.leading_row(q, k)
                self.assertEqual(degrees.degree_row(q, p * k), tuple(p * degree for degree in row))
                self.assertEqual(degrees.leading_row(q, p * k), leads)
                self.assertEqual(digits.most_parts(q, p * k), digits.most_parts(q, k))
            for k in range(0, 40):
                told = plain.power_sum(q, 1, p * k)
                self.assertEqual(told, polys.power(q, plain.power_sum(q, 1, k), p))

    def test_one_less_than_powers(self):
        for q in FIELDS:
            n = 1
            while q ** n - 1 < 10 ** 59:
                k = q ** n - 1
                for d in range(1, digits.most_parts(q, k) + 1):
                    if d < 4 or d == digits.most_parts(q, k):
                        told = d * k - sum((d + 1 - i) * (q - 1) * q ** (i - 1) for i in range(1, d + 1))
                        self.assertEqual(degrees.sum_degree(q, d, k), told)
                n += 1 if n < 6 else 17

    def test_zeros_of_the_sum(self):
        """6.4 for two terms: the zero of 1 + S(1, k) X is -1 / S(1, k), so its lead is told by that of S(1, k)."""
        for q in FIELDS:
            for k in range(q - 1, 200):
                if digits.most_parts(q, k) == 1:
                    made = plain.power_sum(q, 1, k)
                    lead = fields.element_less(q, 0, fields.element_inverse(q, made[-1]))
                    self.assertEqual(degrees.zero_leads(q, k), (lead,))
                    self.assertEqual(degrees.step_row(q, k), (len(made) - 1,))

    def test_what_is_not_true(self):
        # The degrees do not rise with k, and there are steps that are 0, and below 0.
        self.assertGreater(degrees.sum_degree(3, 1, 16), degrees.sum_degree(3, 1, 18))
        self.assertEqual(degrees.step_row(3, 16)[-1], 0)
        self.assertLess(min(step for k in range(2000) for step in degrees.step_row(4, k)), 0)
        # Two partings with one exponent, and an element other than 1 and its opposite.
        exponents = [partings.parting_exponent(2, 2, 7, one) for one in partings.all_partings(2, 2, 7)]
        self.assertLess(len(set(exponents)), len(exponents))
        leads = {degrees.leading(5, 1, k) for k in range(100)}
        self.assertEqual(leads, {0, 1, 2, 3, 4})


if __name__ == "__main__":
    unittest.main()

"""monicsums.sums.partings: the points 5.1 to 5.7."""

import unittest
from math import comb

from monicsums import errors
from monicsums.digits import digits
from monicsums.ground.polys import Poly
from monicsums.sums import partings, plain
from tests.support import FIELDS, LONGEST, NESTED, NO_COUNTS, POWERS, PRIMES, Case, Numbers, digits_of

CALLS = [
    partings.parting, partings.digit_bar, partings.is_zero_sum, partings.greatest_parting, partings.all_partings,
    partings.sum_by_partings,
]
JUDGES = [partings.is_parting, partings.is_digit_bar, partings.parting_exponent, partings.parting_number]
NO_DEGREES = NO_COUNTS + [301, LONGEST]
# For each field numbers of sixty digits, of many and of few digits in base p that are not 0.
FAR = [LONGEST, 10 ** 59, 6 * 10 ** 59, 2 ** 199, 2 ** 199 - 1, 3 ** 125 - 1, 5 ** 85 + 4, 7 ** 70 * 6 + 7 ** 3 * 6]


def slow_within(p, k):
    """All integers that are digitwise within k, ascending."""
    found, worth = [0], 1
    for digit in digits_of(p, k):
        found = [member + many * worth for many in range(digit + 1) for member in found]
        worth *= p
    return found


def slow_partings(q, d, k):
    """All partings of k for d, ascending, by trying all that is digitwise within k."""
    if d == 0:
        return [(k,)]
    found = []
    for member in slow_within(PRIMES[q], k):
        if member > 0 and member % (q - 1) == 0:
            found.extend((member,) + rest for rest in slow_partings(q, d - 1, k - member))
    return found


def slow_number(q, members):
    made, so_far = 1, 0
    for member in members:
        so_far += member
        made *= comb(so_far, member)
    return made % PRIMES[q]


class Partings(Case):
    def test_examples(self):
        self.assertEqual(partings.MAX_LISTED, 2000)
        self.assertEqual(partings.greatest_parting(3, 1, 5), (2, 3))
        told = (
            (1, 2, 4), (1, 4, 2), (1, 6, 0), (2, 1, 4), (2, 4, 1), (2, 5, 0), (3, 4, 0), (4, 1, 2), (4, 2, 1),
            (4, 3, 0), (5, 2, 0), (6, 1, 0),
        )
        self.assertEqual(partings.all_partings(2, 2, 7), told)
        self.assertEqual(partings.sum_by_partings(2, 2, 7), {1: 1, 2: 1, 3: 1, 8: 1, 9: 1, 10: 1})
        self.assertEqual((partings.digit_bar(4, 1, 10), partings.is_zero_sum(4, 1, 42)), (1, False))

    def test_all_partings(self):
        for q in FIELDS:
            for d in range(0, 4):
                for k in range(0, 64 if q < 5 else 130):
                    told = slow_partings(q, d, k)
                    if len(told) > 2000:
                        self.refuses(errors.TooMany, 2000, partings.all_partings, q, d, k)
                        self.refuses(errors.TooMany, 2000, partings.sum_by_partings, q, d, k)
                        continue
                    self.assertEqual(partings.all_partings(q, d, k), tuple(told))
                    self.assertEqual(told, sorted(told))
                    greatest = max(told, key=lambda members: members[::-1], default=None)
                    self.assertEqual(partings.greatest_parting(q, d, k), greatest)
                    one = partings.parting(q, d, k)
                    self.assertIs(one is None, not told)
                    self.assertIn(one, told or [None])

    def test_each_parting_is_judged_so(self):
        for q in FIELDS:
            for d, k in ((0, 17), (1, 2 * q + 1), (1, 63), (2, 80), (2, 8 * q - 1), (3, q ** 3 - 1)):
                for members in slow_partings(q, d, k)[:200]:
                    self.assertIs(partings.is_parting(q, d, k, members), True)
                    exponent = sum(at * member for at, member in enumerate(members))
                    self.assertEqual(partings.parting_exponent(q, d, k, members), exponent)
                    self.assertEqual(partings.parting_number(q, d, k, members), slow_number(q, members))
                    self.assertNotEqual(slow_number(q, members), 0)

    def test_what_is_no_parting(self):
        values = NO_COUNTS + [
            0, 1, 7, (7,), (3, 4), (4, 3), (1, 2, 4, 0), [1, 2, 4], (1, 2, "4"), (True, 2, 4), (1, 2, [4]), (0, 3, 4),
            (3, 0, 4), (-1, 4, 4), (1, 2, 5), (1, 1, 5), (3, 3, 1), (1, 2, 3), NESTED, (None,) * 3, (10 ** 60, 1, 2),
            (Poly(2, (1,)), 2, 4), ("1", "2", "4"), {0: 1, 1: 2, 2: 4},
        ]
        for value in values:
            self.assertIs(partings.is_parting(2, 2, 7, value), False)
            for call in (partings.parting_exponent, partings.parting_number):
                self.refuses(errors.InvalidParting, None, call, 2, 2, 7, value)
        # No multiples of q - 1, and a last member that is none.
        self.assertIs(partings.is_parting(3, 1, 5, (3, 2)), False)
        self.assertIs(partings.is_parting(3, 1, 5, (2, 3)), True)
        self.assertIs(partings.is_parting(3, 1, 5, (4, 1)), True)
        self.assertIs(partings.is_parting(3, 1, 5, (1, 4)), False)
        # No carries in base 4, but in base 2: 3 and 3 and 9.
        self.assertIs(partings.is_parting(4, 1, 12, (3, 9)), False)
        self.assertIs(partings.is_parting(4, 1, 15, (6, 9)), True)
        self.assertIs(partings.is_parting(4, 1, 6, (3, 3)), False)
        self.assertIs(partings.is_parting(2, 0, 0, (0,)), True)
        self.assertIs(partings.is_parting(2, 0, 0, (False,)), False)
        self.assertIs(partings.is_parting(2, 0, 1, (True,)), False)
        self.assertIs(partings.is_parting(2, 1, 0, (0, 0)), False)

    def test_wrong_values(self):
        for call in CALLS:
            self.refuses_fields(call, 1, 1)
        for call in JUDGES:
            self.refuses_fields(call, 1, 1, (1, 0))
        for q in FIELDS:
            for d in NO_DEGREES:
                for call in CALLS:
                    self.refuses_number(d, call, q, d, 1)
                    self.refuses_number(d, call, q, d, -1)
                for call in JUDGES:
                    self.refuses_number(d, call, q, d, -1, None)
            for k in NO_COUNTS:
                for call in CALLS:
                    self.refuses_number(k, call, q, 1, k)
                    self.refuses_number(k, call, q, 300, k)
                for call in JUDGES:
                    self.refuses_number(k, call, q, 300, k, None)
                    self.refuses_number(k, call, q, 0, k, (k,))


class Bars(Case):
    def test_bars(self):
        for q in FIELDS:
            for d in range(0, 5):
                for k in range(0, 200):
                    bars = [j for j, one in enumerate(digits.shift_sums(q, k)) if one < (q - 1) * d]
                    bar = partings.digit_bar(q, d, k)
                    self.assertIn(bar, bars or [None])
                    self.assertIs(bar is None, d <= digits.most_parts(q, k))
                    self.assertIs(bar is None, partings.parting(q, d, k) is not None)
                    self.assertIs(partings.is_zero_sum(q, d, k), bar is not None)
                    for j in range(POWERS[q]):
                        self.assertIs(partings.is_digit_bar(q, d, k, j), j in bars)

    def test_what_is_no_bar(self):
        for q in FIELDS:
            for value in NO_COUNTS + [POWERS[q], POWERS[q] + 1, (0,), [0], Poly(q, ())]:
                self.assertIs(partings.is_digit_bar(q, 300, 1, value), False)
            for value in range(POWERS[q]):
                self.assertIs(partings.is_digit_bar(q, 300, 1, value), True)
        # True is not 1, and False is not 0.
        self.assertIs(partings.is_digit_bar(4, 1, 10, 1), True)
        self.assertIs(partings.is_digit_bar(4, 1, 10, 0), False)
        self.assertIs(partings.is_digit_bar(4, 300, 10, True), False)
        self.assertIs(partings.is_digit_bar(4, 300, 10, False), False)

    def test_sums_and_partings(self):
        """S(d, k) one by one beside what the digits tell."""
        for q in FIELDS:
            for d in range(0, 9):
                if q ** d > 300:
                    break
                step = 1 if d < 2 else 5 if d < 4 else 23
                for k in list(range(0, 100, step)) + [q ** d - 1, q ** (d + 1) - 1, 2 * q ** d - 2]:
                    if k * d <= 1000:
                        self.judge_sum(q, d, k)

    def judge_sum(self, q, d, k):
        made = plain.power_sum(q, d, k)
        self.assertIs(partings.is_zero_sum(q, d, k), made == ())
        self.assertIs(partings.parting(q, d, k) is None, made == ())
        try:
            told = partings.sum_by_partings(q, d, k)
        except errors.TooMany:
            return
        self.assertEqual(told, {at: element for at, element in enumerate(made) if element})
        self.assertEqual(list(told), sorted(told))


class Far(Case):
    def test_sixty_digits(self):
        for q in FIELDS:
            for k in FAR:
                most = digits.most_parts(q, k)
                for d in sorted(d for d in {0, 1, 2, most // 2, most - 1, most} if 0 <= d <= most):
                    self.assertIs(partings.is_zero_sum(q, d, k), False)
                    for call in (partings.parting, partings.greatest_parting):
                        self.assertIs(partings.is_parting(q, d, k, call(q, d, k)), True)
                    self.assertIsNone(partings.digit_bar(q, d, k))
                for d in (most + 1, 300):
                    self.assertIs(partings.is_zero_sum(q, d, k), True)
                    self.assertIsNone(partings.parting(q, d, k))
                    self.assertIsNone(partings.greatest_parting(q, d, k))
                    self.assertIs(partings.is_digit_bar(q, d, k, partings.digit_bar(q, d, k)), True)
                    self.assertEqual(partings.all_partings(q, d, k), ())
                    self.assertEqual(partings.sum_by_partings(q, d, k), {})

    def test_each_degree(self):
        for q in FIELDS:
            for k in (LONGEST, PRIMES[q] ** 40 * 77):
                most = digits.most_parts(q, k)
                for d in range(0, 301):
                    self.assertIs(partings.parting(q, d, k) is None, d > most)

    def test_greatest_of_far_ones(self):
        for q in FIELDS:
            p = PRIMES[q]
            numbers = Numbers(q + 130)
            places = {2: 195, 3: 120, 5: 80, 7: 68}[p]
            for _ in range(8):
                k = sum((1 + numbers.below(p - 1)) * p ** numbers.below(places) for _ in range(6))
                for d in range(0, digits.most_parts(q, k) + 1):
                    try:
                        told = partings.all_partings(q, d, k)
                    except errors.TooMany:
                        continue
                    greatest = max(told, key=lambda members: members[::-1])
                    self.assertEqual(partings.greatest_parting(q, d, k), greatest)
                    if d < 3 and len(told) < 300:
                        self.assertEqual(list(told), slow_partings(q, d, k))
                    exponents = [partings.parting_exponent(q, d, k, members) for members in told]
                    self.assertEqual(exponents.count(max(exponents)), 1)
                    self.assertEqual(exponents[told.index(greatest)], max(exponents))

    def test_limits(self):
        # 2 ** n - 1 has 2 ** n - 1 partings for d = 1 over the field with two elements.
        self.assertEqual(len(partings.all_partings(2, 1, 2 ** 10 - 1)), 1023)
        self.refuses(errors.TooMany, 2000, partings.all_partings, 2, 1, 2 ** 11 - 1)
        self.refuses(errors.TooMany, 2000, partings.sum_by_partings, 2, 1, 2 ** 11 - 1)
        # The digits 4, 6, 6, 6, 6 in base 7 have just 2000 partings for d = 1, at whatever places they stand;
        # over the field with two elements 63 has 2100 for d = 3, and 127 has 1932 for d = 2.
        for places in ((0, 1, 2, 3, 4), (66, 0, 33, 14, 65), (1, 2, 4, 8, 16)):
            k = sum(digit * 7 ** at for digit, at in zip((4, 6, 6, 6, 6), places))
            self.assertEqual(len(partings.all_partings(7, 1, k)), 2000)
            self.assertTrue(partings.sum_by_partings(7, 1, k))
            other = 7 ** 67 + k
            self.refuses(errors.TooMany, 2000, partings.all_partings, 7, 1, other)
            self.refuses(errors.TooMany, 2000, partings.sum_by_partings, 7, 1, other)
        for k in (63, 2 ** 190 + 2 ** 150 + 2 ** 99 + 2 ** 11 + 5 - 1 + 2):
            self.refuses(errors.TooMany, 2000, partings.all_partings, 2, 3, k)
        for k in (127, 2 ** 190 + 2 ** 150 + 2 ** 99 + 2 ** 11 + 7):
            self.assertEqual(len(partings.all_partings(2, 2, k)), 1932)

    def test_many_digits(self):
        for q in FIELDS:
            for d in (1, 2, 5, 12, 13):
                self.refuses(errors.TooMany, 2000, partings.all_partings, q, d, LONGEST)
                self.refuses(errors.TooMany, 2000, partings.sum_by_partings, q, d, LONGEST)
            most = digits.most_parts(q, LONGEST)
            self.refuses(errors.TooMany, 2000, partings.all_partings, q, most, LONGEST)
            self.assertEqual(partings.all_partings(q, 0, LONGEST), ((LONGEST,),))
            self.assertEqual(partings.sum_by_partings(q, 0, LONGEST), {0: 1})
            p = PRIMES[q]
            k = (p - 1) * sum(p ** (at + 40) for at in range(POWERS[q]))
            self.assertEqual(partings.all_partings(q, 1, k)[-1], (k, 0))
        # Twelve members of one digit place, six and six of them equal, have the most orders that are told.
        k = 6 * sum(7 ** at for at in (1, 3, 5, 7, 9, 11)) + 6 * sum(7 ** at for at in (40, 43, 46, 49, 52, 55))
        self.refuses(errors.TooMany, 2000, partings.all_partings, 7, 12, k)
        near, far = partings.all_partings(7, 2, 48), partings.all_partings(7, 2, 7 ** 60 * 6 + 7 ** 9 * 6)
        self.assertEqual(len(near), len(far))
        self.assertEqual(len(partings.all_partings(2, 6, 2 ** 190 + 2 ** 100 + 15)), 720)
        self.refuses(errors.TooMany, 2000, partings.all_partings, 2, 7, 2 ** 190 + 2 ** 100 + 31)


class Further(Case):
    def test_sums_of_multiples(self):
        """5.6: r is the sum, without carries, of n multiples of q - 1 exactly if the digits tell so."""
        for q in FIELDS:
            for r in range(1, 80):
                for n in range(1, 4):
                    found = any(
                        members[-1] > 0 and members[-1] % (q - 1) == 0 for members in slow_partings(q, n - 1, r)
                    )
                    self.assertIs(found, r % (q - 1) == 0 and n <= digits.most_parts(q, r))

    def test_what_is_not_true(self):
        exponents = [partings.parting_exponent(2, 2, 7, one) for one in partings.all_partings(2, 2, 7)]
        self.assertLess(len(set(exponents)), len(exponents))
        self.assertNotEqual(digits.shift_sums(4, 10)[0] // 3, digits.most_parts(4, 10))
        # 2 * 2 is at most 6, and 2 divides 6, but there is no parting; 2 does not divide 5, and there is one.
        self.assertIsNone(partings.parting(3, 2, 6))
        self.assertIsNotNone(partings.parting(3, 1, 5))


if __name__ == "__main__":
    unittest.main()

"""monicsums.digits.digits: the points 3.1 to 3.8."""

import unittest
from itertools import product
from math import comb, factorial

from monicsums import errors
from monicsums.digits import digits
from monicsums.ground.polys import Poly
from tests.support import FIELDS, LONGEST, NESTED, NO_COUNTS, POWERS, PRIMES, TOO_LONG, Case, Numbers, digits_of

BASES = (2, 3, 4, 5, 7, 8, 9, 10, 1000)
NO_BASES = NO_COUNTS + [0, 1, 1001, LONGEST]
NO_PRIMES = NO_COUNTS + [0, 1, 4, 6, 8, 9, 11, 13]
NO_ROWS = [
    None, "", "12", [], [1, 2], {}, {1: 2}, 0, 1, True, TOO_LONG, NESTED, (True,), (0, False), (None,), ("1",), ((1,),),
    ([1],), (-1,), (TOO_LONG,), (1, -TOO_LONG), (1,) * 401, Poly(2, (1,)), (Poly(2, (1,)),), errors.TooMany(3),
]


def all_carries(b, i, j):
    """How many carries are 1, place by place."""
    many, carry = 0, 0
    while i or j or carry:
        carry = 1 if i % b + j % b + carry >= b else 0
        many += carry
        i, j = i // b, j // b
    return many


def slow_free(b, numbers):
    rows = [digits_of(b, number) for number in numbers]
    size = max(len(row) for row in rows)
    return all(sum(row[at] for row in rows if at < len(row)) < b for at in range(size))


class Digits(Case):
    def test_examples(self):
        self.assertEqual(digits.MOST_NUMBERS, 400)
        self.assertEqual([digits.digits(3, 16), digits.of_digits(3, (1, 2, 1, 0))], [(1, 2, 1), 16])
        self.assertEqual([digits.digit_sum(2, 1023), digits.carries(2, 3, 5)], [10, 3])
        self.assertEqual([digits.has_no_carries(3, (1, 9, 6)), digits.is_digitwise(2, 5, 7)], [True, True])

    def test_digits(self):
        for b in BASES:
            for k in list(range(0, 300)) + [10 ** 30, LONGEST]:
                row = digits.digits(b, k)
                self.assertEqual(row, tuple(digits_of(b, k)))
                self.assertEqual(digits.of_digits(b, row), k)
                self.assertEqual(digits.of_digits(b, row + (0, 0)), k)
                self.assertEqual(digits.digit_sum(b, k), sum(row))
            self.assertEqual(digits.digits(b, 0), ())
            self.assertEqual(digits.of_digits(b, ()), 0)
            self.assertEqual(digits.of_digits(b, (b - 1,) * 400), b ** 400 - 1)
            for row in NO_ROWS + [(b,), (0, b), (0,) * 401]:
                self.refuses(errors.InvalidOperation, None, digits.of_digits, b, row)

    def test_wrong_numbers(self):
        for b in NO_BASES:
            for call in (digits.digits, digits.digit_sum, digits.digitwise):
                self.refuses_number(b, call, b, 1)
                self.refuses_number(b, call, b, -1)
            for call in (digits.carries, digits.is_digitwise):
                self.refuses_number(b, call, b, 1, 1)
                self.refuses_number(b, call, b, None, -1)
            self.refuses_number(b, digits.of_digits, b, None)
            self.refuses_number(b, digits.has_no_carries, b, None)
        for k in NO_COUNTS:
            for call in (digits.digits, digits.digit_sum, digits.digitwise):
                self.refuses_number(k, call, 2, k)
            for call in (digits.carries, digits.is_digitwise, digits.choose_rest):
                self.refuses_number(k, call, 2, k, 1)
                self.refuses_number(k, call, 2, 1, k)
                self.refuses_number(k, call, 2, k, -7)
            for call in (digits.shift_sums, digits.most_parts):
                self.refuses_number(k, call, 4, k)
        for p in NO_PRIMES:
            self.refuses_number(p, digits.choose_rest, p, 1, 1)
            self.refuses_number(p, digits.choose_rest, p, -1, None)
            self.refuses_number(p, digits.multinomial_rest, p, ())
        for call in (digits.shift_sums, digits.most_parts):
            self.refuses_fields(call, 1)
        for numbers in NO_ROWS + [()]:
            self.refuses(errors.InvalidOperation, None, digits.has_no_carries, 10, numbers)
            self.refuses(errors.InvalidOperation, None, digits.multinomial_rest, 7, numbers)


class Carries(Case):
    def test_carries(self):
        for b in (2, 3, 4, 9, 10):
            for i in range(60):
                for j in range(60):
                    many = digits.carries(b, i, j)
                    self.assertEqual(many, all_carries(b, i, j))
                    less = digits.digit_sum(b, i) + digits.digit_sum(b, j) - digits.digit_sum(b, i + j)
                    self.assertEqual((less // (b - 1), less % (b - 1)), (many, 0))
                    self.assertIs(digits.has_no_carries(b, (i, j)), many == 0)
        self.assertEqual(digits.carries(10, LONGEST, 1), 60)
        self.assertEqual(digits.carries(2, 2 ** 198, 2 ** 198 - 1), 0)

    def test_no_carries(self):
        for b in (2, 3, 4, 10):
            for numbers in product(range(12), repeat=3):
                free = digits.has_no_carries(b, numbers)
                self.assertIs(free, slow_free(b, numbers))
                sums = sum(digits.digit_sum(b, number) for number in numbers)
                self.assertIs(free, sums == digits.digit_sum(b, sum(numbers)))
            self.assertIs(digits.has_no_carries(b, (5,)), True)
            self.assertIs(digits.has_no_carries(b, (0,) * 400), True)
            self.assertIs(digits.has_no_carries(b, (LONGEST,) * 400), False)
        self.assertIs(digits.has_no_carries(1000, (1,) * 400), True)
        self.assertIs(digits.has_no_carries(400, (1,) * 400), False)
        self.assertIs(digits.has_no_carries(401, (1,) * 400), True)

    def test_digitwise(self):
        for b in (2, 3, 4, 10):
            for j in range(130):
                within = []
                for i in range(150):
                    pairs = zip(digits_of(b, i) + [0] * 9, digits_of(b, j) + [0] * 9)
                    told = all(x <= y for x, y in pairs)
                    self.assertIs(digits.is_digitwise(b, i, j), told)
                    self.assertIs(told, i <= j and digits.has_no_carries(b, (i, j - i)))
                    within.extend([i] if told else [])
                self.assertEqual(digits.digitwise(b, j), tuple(within))
        self.assertEqual(digits.digitwise(2, 0), (0,))

    def test_limits_of_digitwise(self):
        self.assertEqual(digits.digitwise(2, 2 ** 10 - 1), tuple(range(1024)))
        self.refuses(errors.TooMany, 2000, digits.digitwise, 2, 2 ** 11 - 1)
        # 2000 is 2 ** 4 * 5 ** 3: just as many are listed, and one factor more is too much.
        row = (1, 1, 1, 1, 4, 4, 4)
        k = digits.of_digits(10, row)
        self.assertEqual(len(digits.digitwise(10, k)), 2000)
        self.refuses(errors.TooMany, 2000, digits.digitwise, 10, k + 10 ** 7)
        # 2001 is 3 * 23 * 29.
        self.refuses(errors.TooMany, 2000, digits.digitwise, 30, digits.of_digits(30, (2, 22, 28)))
        self.refuses(errors.TooMany, 2000, digits.digitwise, 10, LONGEST)
        self.assertEqual(digits.digitwise(2, 2 ** 199), (0, 2 ** 199))
        self.assertEqual(len(digits.digitwise(1000, 999)), 1000)


class Rests(Case):
    def test_choose(self):
        for p in (2, 3, 5, 7):
            for n in range(90):
                for k in range(100):
                    rest = digits.choose_rest(p, n, k)
                    self.assertEqual(rest, comb(n, k) % p)
                    self.assertIs(rest == 0, not digits.is_digitwise(p, k, n))
            self.assertEqual(digits.choose_rest(p, LONGEST, 0), 1)
            self.assertEqual(digits.choose_rest(p, 0, LONGEST), 0)
            self.assertEqual(digits.choose_rest(p, LONGEST, LONGEST), 1)
            self.assertEqual(digits.choose_rest(p, LONGEST, 1), LONGEST % p)

    def test_multinomials(self):
        for p in (2, 3, 5, 7):
            for numbers in product(range(11), repeat=3):
                whole = factorial(sum(numbers))
                for number in numbers:
                    whole //= factorial(number)
                rest = digits.multinomial_rest(p, numbers)
                self.assertEqual(rest, whole % p)
                self.assertIs(rest == 0, not digits.has_no_carries(p, numbers))
            self.assertEqual(digits.multinomial_rest(p, (LONGEST,)), 1)
            self.assertEqual(digits.multinomial_rest(p, (1,) * 400), 0)
            self.assertEqual(digits.multinomial_rest(p, tuple(p ** at for at in range(60))), 1)
            self.assertEqual(digits.multinomial_rest(p, (p ** 50,) * (p - 1)), factorial(p - 1) % p)


class Shifts(Case):
    def test_shift_sums(self):
        for q in FIELDS:
            p = PRIMES[q]
            for k in list(range(250)) + [10 ** 40, LONGEST]:
                told = tuple(sum(digits_of(q, p ** j * k)) for j in range(POWERS[q]))
                self.assertEqual(digits.shift_sums(q, k), told)
                for j, one in enumerate(told):
                    self.assertEqual((one - p ** j * k) % (q - 1), 0)
                self.assertEqual(digits.most_parts(q, k), min(told) // (q - 1))
            self.assertEqual((digits.shift_sums(q, 0), digits.most_parts(q, 0)), ((0,) * POWERS[q], 0))

    def test_sums_without_carries(self):
        for q in FIELDS:
            p = PRIMES[q]
            numbers = Numbers(q + 110)
            for _ in range(200):
                k = numbers.below(10 ** 9)
                i = digits.of_digits(p, tuple(numbers.below(x + 1) for x in digits.digits(p, k)))
                parts = zip(digits.shift_sums(q, i), digits.shift_sums(q, k - i))
                self.assertEqual(digits.shift_sums(q, k), tuple(x + y for x, y in parts))
            for k in range(q - 1, 60 * (q - 1), q - 1):
                self.assertGreaterEqual(min(digits.shift_sums(q, k)), q - 1)

    def test_what_is_not_true(self):
        # The digit sum in base q alone does not tell the number of parts: 10 is 2 + 2 * 4.
        self.assertEqual((digits.shift_sums(4, 10), digits.most_parts(4, 10)), ((4, 2), 0))
        self.assertEqual((digits.shift_sums(4, 5), digits.most_parts(4, 5)), ((2, 4), 0))
        self.assertEqual((digits.digit_sum(4, 15), digits.most_parts(4, 15)), (6, 2))
        # Numbers without carries in base q may have some in base p.
        self.assertIs(digits.has_no_carries(4, (1, 1)), True)
        self.assertIs(digits.has_no_carries(2, (1, 1)), False)
        for i in range(40):
            for j in range(40):
                if digits.has_no_carries(3, (i, j)):
                    self.assertIs(digits.has_no_carries(9, (i, j)), True)


if __name__ == "__main__":
    unittest.main()

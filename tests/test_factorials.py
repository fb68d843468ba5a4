"""monicsums.whole.factorials: the points 12.1 to 12.6."""

import unittest

from monicsums import errors
from monicsums.digits import digits
from monicsums.ground import polys
from monicsums.ground.rows import row_divided, row_power, row_product
from monicsums.sums import plain
from monicsums.whole import factorials
from tests.support import FIELDS, LONGEST, NO_COUNTS, NO_FIELDS, Case, Numbers, digits_of, minus, no_primes, slow_added
from tests.support import some_primes

ONE = (1,)
FAR = [LONGEST, 10 ** 59, 2 ** 199 - 1, 3 ** 125, 7 ** 70 - 1, 10 ** 30 + 7]


def bracket(q, i):
    return slow_added(q, (0,) * q ** i + (1,), minus(q, (0, 1)))


def most_made(q):
    """The greatest k whose factorial has a degree of at most 2000."""
    k = 0
    while factorials.factorial_degree(q, k + 1) <= 2000:
        k += 1
    return k


def times_in(q, prime, a):
    """How often the prime divides a."""
    many = 0
    quotient, rest = row_divided(q, a, prime)
    while rest == ():
        many += 1
        quotient, rest = row_divided(q, quotient, prime)
    return many


class Factorials(Case):
    def test_examples(self):
        told = [(1,), (0, 1, 1), (0, 1, 1), (0, 0, 0, 1, 0, 1, 1, 0, 1)]
        self.assertEqual([factorials.factorial(2, k) for k in (1, 2, 3, 4)], told)
        self.assertEqual((factorials.factorial_degree(3, 9), factorials.factorial_degree(3, 10 ** 6)), (18, 11342187))
        self.assertEqual(factorials.MOST_MADE, 2000)

    def test_by_products_and_by_brackets(self):
        for q in FIELDS:
            for k in list(range(0, 3 * q + 3)) + [40, 81, 100, 127, 128, 200]:
                by_digits = ONE
                for i, digit in enumerate(digits_of(q, k)):
                    if digit:
                        by_digits = row_product(q, by_digits, row_power(q, plain.all_product(q, i), digit))
                by_brackets, i = ONE, 1
                while q ** i <= k:
                    by_brackets = row_product(q, by_brackets, row_power(q, bracket(q, i), k // q ** i))
                    i += 1
                made = factorials.factorial(q, k)
                self.assertEqual((made, made), (by_digits, by_brackets))
                self.assertEqual((len(made) - 1, made[-1]), (factorials.factorial_degree(q, k), 1))
            for d in range(0, 9):
                if d * q ** d <= 2000:
                    whole = plain.all_product(q, d)
                    self.assertEqual(factorials.factorial(q, q ** d), whole)
                    told = row_divided(q, whole, plain.least_multiple(q, d))
                    self.assertEqual((factorials.factorial(q, q ** d - 1), ()), told)

    def test_degrees(self):
        for q in FIELDS:
            for k in FAR:
                told = sum(q ** i * (k // q ** i) for i in range(1, 202))
                self.assertEqual(factorials.factorial_degree(q, k), told)
            k = most_made(q)
            self.assertEqual(len(factorials.factorial(q, k)) - 1, factorials.factorial_degree(q, k))
            for far in (k + 1, 2 * k, LONGEST):
                self.refuses(errors.TooMany, 2000, factorials.factorial, q, far)

    def test_exponents(self):
        for q in FIELDS:
            for h in range(1, 4):
                for prime in some_primes(q, h, 2):
                    for k in (0, 1, q, q ** h, q ** h + q, 60, 99):
                        if factorials.factorial_degree(q, k) > 2000:
                            continue
                        told = factorials.factorial_exponent(q, prime, k)
                        self.assertEqual(told, times_in(q, prime, factorials.factorial(q, k)))
            for h in range(1, 7):
                size = q ** h
                for k in FAR:
                    told = sum(k // size ** e for e in range(1, 202))
                    self.assertEqual(factorials.factorial_exponent(q, some_primes(q, h, 1)[0], k), told)

    def test_brackets_are_products_of_primes(self):
        for q, i in ((2, 1), (2, 2), (2, 3), (2, 4), (3, 1), (3, 2), (4, 2), (5, 2), (7, 1), (9, 1)):
            told = ONE
            for h in range(1, i + 1):
                if i % h == 0:
                    for prime in polys.primes_of(q, h):
                        told = row_product(q, told, prime)
            self.assertEqual(told, bracket(q, i))


class Choices(Case):
    def test_small_choices(self):
        for q in FIELDS:
            for k in list(range(0, 2 * q + 2)) + [20, 31, 48, 64, 80]:
                for j in range(0, k + 1, 1 if k < 20 else 3):
                    made = factorials.choose(q, k, j)
                    below = row_product(q, factorials.factorial(q, j), factorials.factorial(q, k - j))
                    self.assertEqual((made, ()), row_divided(q, factorials.factorial(q, k), below))
                    places = factorials.choose_places(q, k, j)
                    told = ONE
                    for i in places:
                        told = row_product(q, told, bracket(q, i))
                    self.assertEqual((made, len(made) - 1), (told, factorials.choose_degree(q, k, j)))
                    self.assertEqual(made, factorials.choose(q, k, k - j))
                    self.assertIs(made == ONE, digits.has_no_carries(q, (j, k - j)))

    def test_places(self):
        for q in FIELDS:
            numbers = Numbers(q + 600)
            for k in FAR + [q ** 9, q ** 9 - 1]:
                for j in (0, 1, k // 2, k - 1, k, numbers.below(k)):
                    places = tuple(i for i in range(1, 202)
                                   if k // q ** i == j // q ** i + (k - j) // q ** i + 1)
                    self.assertEqual(factorials.choose_places(q, k, j), places)
                    self.assertEqual(len(places), digits.carries(q, j, k - j))
                    self.assertEqual(factorials.choose_degree(q, k, j), sum(q ** i for i in places))
                    for h in range(1, 7):
                        prime = some_primes(q, h, 1)[0]
                        told = factorials.choose_exponent(q, prime, k, j)
                        self.assertEqual(told, len([i for i in places if i % h == 0]))
                        if q ** h <= 1000:
                            self.assertEqual(told, digits.carries(q ** h, j, k - j))

    def test_limits(self):
        for q in FIELDS:
            i = 1
            while q ** (i + 1) <= 2000:
                i += 1
            # The brackets up to the place i, of a degree of q + q ** 2 + .. + q ** i.
            if sum(q ** at for at in range(1, i + 1)) > 2000:
                self.refuses(errors.TooMany, 2000, factorials.choose, q, q ** i, 1)
            else:
                self.assertEqual(factorials.choose(q, q ** i, 1), plain.least_multiple(q, i))
            self.refuses(errors.TooMany, 2000, factorials.choose, q, q ** (i + 1), 1)
            self.refuses(errors.TooMany, 2000, factorials.choose, q, q ** 20, q ** 19)
            self.assertEqual(factorials.choose(q, LONGEST, 0), ONE)
            self.assertEqual(factorials.choose(q, LONGEST, LONGEST), ONE)
            # Of a great k with a carry at the first place alone.
            self.assertEqual(factorials.choose(q, q ** 20 + q, 1), bracket(q, 1))

    def test_multiples(self):
        for q in FIELDS:
            for k in range(0, 4 * q):
                one, other = factorials.factorial(q, k), factorials.factorial(q, k + 1)
                self.assertEqual(row_divided(q, other, one)[1], ())
                self.assertIs(one == other, (k + 1) % q != 0)
                told, i = ONE, 1
                while q ** (i - 1) <= k:
                    told = row_product(q, told, row_power(q, bracket(q, i), k // q ** (i - 1)))
                    i += 1
                if k < 2 * q:
                    self.assertEqual(factorials.factorial(q, q * k), told)
            for k in range(1, q ** 3 + 2 if q < 4 else q ** 2 + 2):
                rows = [factorials.choose_places(q, k, j) for j in range(1, k)]
                self.assertIs(all(rows), k in [q ** i for i in range(9)])

    def test_what_is_not_true(self):
        # For q = 4 the sum 1 + 1 has a carry in base 2, and none in base 4.
        self.assertEqual((factorials.choose(4, 2, 1), digits.has_no_carries(2, (1, 1))), (ONE, False))
        one, both = factorials.factorial_degree(2, 1), factorials.factorial_degree(2, 2)
        self.assertEqual((one + one, both), (0, 2))
        self.assertEqual(factorials.choose_exponent(2, (0, 1), 4, 1), 2)

    def test_wrong_values(self):
        field, number = (errors.InvalidField, NO_FIELDS), (errors.InvalidNumber, NO_COUNTS)
        for q in FIELDS:
            for call in (factorials.factorial, factorials.factorial_degree):
                self.refuses_in_order(call, (q, 1), [field, number])
            prime = (errors.InvalidPolynomial, no_primes(q))
            self.refuses_in_order(factorials.factorial_exponent, (q, (0, 1), 1), [field, prime, number])
            lower = (errors.InvalidNumber, NO_COUNTS + [6, LONGEST])
            for call in (factorials.choose, factorials.choose_places, factorials.choose_degree):
                self.refuses_in_order(call, (q, 5, 2), [field, number, lower])
                self.refuses_number(q ** 30 + 1, call, q, q ** 30, q ** 30 + 1)
            self.refuses_in_order(factorials.choose_exponent, (q, (0, 1), 5, 2), [field, prime, number, lower])


if __name__ == "__main__":
    unittest.main()

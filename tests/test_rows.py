"""Products, quotients and common divisors of long and short polynomials, each by both of the roads that there are."""

import unittest

from monicsums.ground import bits, packing, rows, slots
from tests.support import FIELDS, PRIMES, Numbers, slow_added, slow_power, slow_times


class Rows(unittest.TestCase):
    def test_products_and_divisions(self):
        for q in FIELDS:
            numbers = Numbers(q + 300)
            for _ in range(60):
                a, b = (numbers.polynomial(q, numbers.below(50) - 1) for _ in range(2))
                made = slow_times(q, a, b)
                self.assertEqual(rows.row_product(q, a, b), made)
                if a and b:
                    self.assertEqual(tuple(packing.packed_product(q, a, b)), made)
                    self.assertEqual(rows.product_by_terms(q, a, b), made)
                    self.assertEqual(rows.row_divided(q, made, b), (a, ()))
                    self.check_division(q, a, b)

    def check_division(self, q, a, b):
        quotient, rest = rows.row_divided(q, a, b)
        self.assertLess(len(rest), len(b))
        self.assertEqual(slow_added(q, slow_times(q, quotient, b), rest), a)
        if len(a) >= len(b):
            quick = bits.bits_divided if q in (2, 4, 8) else slots.slots_divided
            roads = [quick(q, a, b), rows.divided_by_terms(q, a, b)]
            for told in roads:
                self.assertEqual((tuple(told[0]), rows.trimmed(told[1])), (quotient, rest))

    def test_common_divisors(self):
        for q in FIELDS:
            numbers = Numbers(q + 310)
            for _ in range(12):
                a, b, c = (numbers.polynomial(q, numbers.below(30)) for _ in range(3))
                one, other = sorted([slow_times(q, a, c), slow_times(q, b, c)], key=len, reverse=True)
                shared = rows.row_common_divisor(q, one, other)
                self.assertEqual(rows.row_common_divisor(q, other, one), shared)
                quick = bits.bits_common if q in (2, 4, 8) else slots.slots_common
                roads = [quick(q, one, other), rows.common_by_terms(q, one, other)]
                for told in roads:
                    self.assertEqual(rows.row_monic(q, tuple(told)), shared)
                self.assertEqual(rows.row_divided(q, shared, c)[1], ())
                parts = [rows.row_divided(q, whole, shared)[0] for whole in (one, other)]
                self.assertEqual(rows.row_common_divisor(q, *parts), (1,))

    def test_full_slots(self):
        # The greatest sums that stand in a slot: all coefficients are the greatest elements.
        for q in FIELDS:
            full = (q - 1,) * 2001
            mixed = tuple(at % q for at in range(1999)) + (1,)
            self.assertEqual(rows.row_divided(q, rows.row_product(q, full, full), full), (full, ()))
            made = rows.row_sum(q, rows.row_product(q, full, mixed), (1,))
            self.assertEqual(rows.row_divided(q, made, mixed), (full, (1,)))
            square = slow_times(q, full[:90], full[:90])
            self.assertEqual(rows.row_product(q, full[:90], full[:90]), square)

    def test_prime_powers(self):
        for q in FIELDS:
            for degree in range(-1, 6):
                a = Numbers(q + degree).polynomial(q, degree)
                self.assertEqual(rows.row_prime_power(q, a), slow_power(q, a, PRIMES[q]))


if __name__ == "__main__":
    unittest.main()

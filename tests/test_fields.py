"""monicsums.ground.fields: the points 1.1 to 1.4."""

import unittest

from monicsums.ground import fields
from monicsums.ground.polys import Poly
from tests.support import FIELDS, LONGEST, NO_COUNTS, NO_FIELDS, POWERS, PRIMES, TOO_LONG, Case
from tests.support import slow_opposite, slow_product, slow_sum

TWO = [fields.element_sum, fields.element_less, fields.element_product]
ONE = [fields.element_inverse, fields.element_order, fields.element_root]


def no_members(q):
    """Values that are no elements."""
    return [value for value in NO_COUNTS] + [q, q + 1, 100, Poly(q, (1,))]


class Fields(Case):
    def test_which_fields_there_are(self):
        self.assertEqual(fields.FIELDS, FIELDS)
        for q in FIELDS:
            self.assertIs(fields.is_field(q), True)
            self.assertEqual((fields.prime_of(q), fields.power_of(q)), (PRIMES[q], POWERS[q]))
            self.assertEqual(PRIMES[q] ** POWERS[q], q)
        for value in NO_FIELDS:
            self.assertIs(fields.is_field(value), False)

    def test_wrong_fields(self):
        for call in (fields.prime_of, fields.power_of, fields.element_maker):
            self.refuses_fields(call)
        for call in ONE + [fields.is_element]:
            self.refuses_fields(call, 1)
        for call in TWO + [fields.element_power]:
            self.refuses_fields(call, 1, 1)

    def test_is_element(self):
        for q in FIELDS:
            for value in range(q):
                self.assertIs(fields.is_element(q, value), True)
            for value in no_members(q):
                self.assertIs(fields.is_element(q, value), False)

    def test_wrong_members(self):
        for q in FIELDS:
            for value in no_members(q):
                for call in TWO:
                    self.refuses_number(value, call, q, value, 1)
                    self.refuses_number(value, call, q, 1, value)
                    self.refuses_number(value, call, q, value, q)
                    self.refuses_number(q, call, q, q, value)
                for call in ONE:
                    self.refuses_number(value, call, q, value)
                self.refuses_number(value, fields.element_power, q, value, 1)
                self.refuses_number(value, fields.element_power, q, value, -1)

    def test_examples(self):
        self.assertEqual([fields.element_product(4, 2, 2), fields.element_product(8, 2, 4)], [3, 3])
        self.assertEqual([fields.element_product(9, 3, 3), fields.element_sum(9, 5, 4)], [4, 6])
        self.assertEqual([fields.element_inverse(7, 3), fields.element_power(5, 2, 10 ** 30 + 1)], [5, 2])

    def test_sums_and_products(self):
        for q in FIELDS:
            for x in range(q):
                for y in range(q):
                    self.assertEqual(fields.element_sum(q, x, y), slow_sum(q, x, y))
                    self.assertEqual(fields.element_less(q, x, y), slow_sum(q, x, slow_opposite(q, y)))
                    self.assertEqual(fields.element_product(q, x, y), slow_product(q, x, y))

    def test_a_field(self):
        for q in FIELDS:
            for x in range(q):
                for y in range(q):
                    for z in range(q):
                        one = fields.element_product(q, x, fields.element_sum(q, y, z))
                        other = [fields.element_product(q, x, y), fields.element_product(q, x, z)]
                        self.assertEqual(one, fields.element_sum(q, *other))
                        one = fields.element_product(q, x, fields.element_product(q, y, z))
                        self.assertEqual(one, fields.element_product(q, fields.element_product(q, x, y), z))

    def test_inverses(self):
        for q in FIELDS:
            for x in range(1, q):
                self.assertEqual(fields.element_product(q, x, fields.element_inverse(q, x)), 1)
            self.refuses_zero(fields.element_inverse, q, 0)

    def test_powers(self):
        for q in FIELDS:
            for x in range(q):
                made = 1
                for k in range(20):
                    self.assertEqual(fields.element_power(q, x, k), made)
                    made = fields.element_product(q, made, x)
                self.assertEqual(fields.element_power(q, x, q), x)
                for k in (LONGEST, LONGEST - 1, 10 ** 59, 7 ** 70):
                    rest = 0 if x == 0 else fields.element_power(q, x, k % (q - 1))
                    self.assertEqual(fields.element_power(q, x, k), rest)
            for k in NO_COUNTS:
                self.refuses_number(k, fields.element_power, q, 1, k)
                self.refuses_number(k, fields.element_power, q, 0, k)
            self.refuses_number(q, fields.element_power, q, q, TOO_LONG)

    def test_orders_and_makers(self):
        for q in FIELDS:
            orders = []
            for x in range(1, q):
                order = fields.element_order(q, x)
                powers = [fields.element_power(q, x, k) for k in range(1, order + 1)]
                self.assertEqual(powers.index(1), order - 1)
                self.assertEqual((q - 1) % order, 0)
                orders.append(order)
            maker = fields.element_maker(q)
            self.assertEqual(maker, orders.index(q - 1) + 1)
            self.assertEqual(sorted(fields.element_power(q, maker, k) for k in range(q - 1)), list(range(1, q)))
            self.refuses_zero(fields.element_order, q, 0)
        self.assertEqual([fields.element_maker(q) for q in FIELDS], [1, 2, 2, 2, 3, 2, 3])

    def test_roots(self):
        for q in FIELDS:
            p = PRIMES[q]
            for x in range(q):
                self.assertEqual(fields.element_power(q, fields.element_root(q, x), p), x)
                for y in range(q):
                    powers = [fields.element_power(q, z, p) for z in (x, y)]
                    self.assertEqual(
                        fields.element_power(q, fields.element_sum(q, x, y), p), fields.element_sum(q, *powers)
                    )


if __name__ == "__main__":
    unittest.main()

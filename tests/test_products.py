"""monicsums.below.products: the points 17.1 to 17.6."""

import itertools
import unittest
from math import comb

from monicsums import errors
from monicsums.below import products, reciprocals
from monicsums.ground import polys
from monicsums.ground.quotients import lowest, sum_of_quotients
from monicsums.ground.rows import row_divided, row_power, row_power_rest, row_product, row_scaled, row_sum
from monicsums.sums import plain
from tests.support import FIELDS, LONGEST, NESTED, NO_COUNTS, PRIMES, TOO_LONG, Case, Numbers, minus, slow_monics
from tests.support import some_primes

ONE = (1,)
ZERO = ((), ONE)
NO_ROWS = [
    None, "", "1", (), [], [1], {}, {1: 1}, 1, 0, True, (0,), (13,), (-1,), (True,), (1, True), (1, 0), (1, 13),
    (1, 1, 1, 1), (1, 2, 3, 4, 5), (None,), ("1",), ((1,),), (1, (1,)), [1, 1], TOO_LONG, (TOO_LONG,), NESTED,
    errors.TooMany(1), polys.Poly(2, ONE), (polys.Poly(2, ONE),), (1,) * 400, (LONGEST,),
]


def times(q, one, other):
    return lowest(q, row_product(q, one[0], other[0]), row_product(q, one[1], other[1]))


def scaled(q, element, one):
    return lowest(q, row_scaled(q, element, one[0]), one[1])


class Slow:
    """Nested sums and low sums over one field, word for word, each kept."""

    def __init__(self, q):
        self.q = q
        self.known = {}

    def first(self, d, k):
        """S(d, -k)."""
        if (d, k) not in self.known:
            total = ZERO
            for a in slow_monics(self.q, d):
                total = sum_of_quotients(self.q, total, (ONE, row_power(self.q, a, k)))
            self.known[d, k] = total
        return self.known[d, k]

    def nested(self, d, row):
        if len(row) == 1:
            return self.first(d, row[0])
        if (d, row) not in self.known:
            self.known[d, row] = times(self.q, self.first(d, row[0]), self.low(d, row[1:]))
        return self.known[d, row]

    def low(self, d, row):
        total = ZERO
        for i in range(d):
            total = sum_of_quotients(self.q, total, self.nested(i, row))
        return total

    def total(self, call, d, rows):
        """The sum that a dict from rows to elements tells, of nested sums or of low sums."""
        total = ZERO
        for row, element in rows.items():
            total = sum_of_quotients(self.q, total, scaled(self.q, element, call(d, row)))
        return total


class Told(Slow):
    """The same, with each S(d, -k) as stage 16 tells it."""

    def first(self, d, k):
        least = k
        while least % PRIMES[self.q] == 0:
            least //= PRIMES[self.q]
        return tuple(row_power(self.q, part, k // least) for part in reciprocals.reciprocal_sum(self.q, d, least))


class Rests:
    """The same modulo a prime that divides no monic polynomial of the degrees that come up."""

    def __init__(self, q, prime):
        self.q, self.prime = q, prime
        self.known = {}

    def first(self, d, k):
        if (d, k) not in self.known:
            size = self.q ** (len(self.prime) - 1)
            total = ()
            for a in slow_monics(self.q, d):
                total = row_sum(self.q, total, row_power_rest(self.q, a, (-k) % (size - 1), self.prime))
            self.known[d, k] = total
        return self.known[d, k]

    def nested(self, d, row):
        if (d, row) not in self.known:
            made = self.first(d, row[0])
            if len(row) > 1:
                made = self.times(made, self.low(d, row[1:]))
            self.known[d, row] = made
        return self.known[d, row]

    def low(self, d, row):
        if ("low", d, row) not in self.known:
            total = ()
            for i in range(d):
                total = row_sum(self.q, total, self.nested(i, row))
            self.known["low", d, row] = total
        return self.known["low", d, row]

    def times(self, one, other):
        return row_divided(self.q, row_product(self.q, one, other), self.prime)[1]

    def total(self, call, d, rows):
        total = ()
        for row, element in rows.items():
            total = row_sum(self.q, total, row_scaled(self.q, element, call(d, row)))
        return total


def told_terms(q, i, j):
    """The pairs (t, c(t)) of 17.2, word for word."""
    found = []
    for t in range(1, i + j):
        if t % (q - 1) == 0:
            made = (-1) ** (i - 1) * comb(t - 1, i - 1) + (-1) ** (j - 1) * comb(t - 1, j - 1)
            if made % PRIMES[q]:
                found.append((t, made % PRIMES[q]))
    return tuple(found)


def put_together(q, parts):
    total = {}
    for factor, ahead, rows in parts:
        for row, element in rows.items():
            total[ahead + row] = (total.get(ahead + row, 0) + factor * element) % PRIMES[q]
    return {row: element for row, element in total.items() if element}


def told_low(q, u, v):
    """The dict of 17.3 for the product of two low sums."""
    if not u or not v:
        return {u + v: 1}
    return put_together(q, [
        (1, u[:1], told_low(q, u[1:], v)), (1, v[:1], told_low(q, u, v[1:])), (1, (), told_nested(q, u, v)),
    ])


def told_nested(q, u, v):
    """The dict of 17.3 for the product of two nested sums."""
    lower = told_low(q, u[1:], v[1:])
    parts = [(1, (u[0] + v[0],), lower)]
    for t, element in told_terms(q, u[0], v[0]):
        for row, factor in lower.items():
            parts.append((element * factor, (u[0] + v[0] - t,), told_low(q, (t,), row)))
    return put_together(q, parts)


def some_rows(numbers, many, weight):
    """Pairs of rows whose members add up to at most this weight."""
    found = []
    while len(found) < many:
        pair = [tuple(1 + numbers.below(5) for _ in range(1 + numbers.below(3))) for _ in range(2)]
        if sum(pair[0]) + sum(pair[1]) <= weight:
            found.append(pair)
    return found


class Sums(Case):
    def test_one_by_one(self):
        for q in FIELDS:
            slow = Slow(q)
            numbers = Numbers(q)
            for d in range(0, 4):
                for _ in range(12):
                    row = tuple(1 + numbers.below(6) for _ in range(1 + numbers.below(3)))
                    if q ** d * sum(row) <= 100:
                        self.assertEqual(products.nested_sum(q, d, row), slow.nested(d, row))
                        self.assertEqual(products.low_nested(q, d, row), slow.low(d, row))

    def test_rows_with_one_member(self):
        for q in FIELDS:
            for d in range(0, 7):
                for k in range(1, 13):
                    if q ** d <= 300 and sum(q ** j for j in range(1, d + 1)) * k <= 2000:
                        made = reciprocals.reciprocal_sum(q, d, k)
                        self.assertEqual(products.nested_sum(q, d, (k,)), made)

    def test_low_sums(self):
        for q in FIELDS:
            for row in ((1,), (3,), (12,), (1, 2), (2, 1, 3), (1, 1, 1)):
                total = ZERO
                for d in range(0, 7):
                    if q ** d > 300 or sum(q ** j for j in range(1, d + 1)) * sum(row) > 1000:
                        break
                    self.assertEqual(products.low_nested(q, d, row), total)
                    if d < len(row):
                        self.assertEqual(total, ZERO)
                    total = sum_of_quotients(q, total, products.nested_sum(q, d, row))
                self.assertEqual(products.low_nested(q, 0, row), ZERO)

    def test_where_it_ends(self):
        for call in (products.nested_sum, products.low_nested):
            for q in FIELDS:
                for d in range(0, 7):
                    if q ** d > 300:
                        self.refuses(errors.TooMany, 300, call, q, d, (1,))
                        self.refuses(errors.InvalidRow, None, call, q, d, (13,))
                    elif sum(q ** j for j in range(1, d + 1)) <= 2000 // 12:
                        call(q, d, (12,))
        # S(5, -4) over three elements has a bottom with at most the degree 1452, S(5, -12) is its third power.
        self.assertEqual(products.nested_sum(3, 5, (4,)), reciprocals.reciprocal_sum(3, 5, 4))
        self.assertGreater(reciprocals.below_degree(3, 5, 4) * 3, 2000)
        self.refuses(errors.TooMany, 2000, products.nested_sum, 3, 5, (12,))
        self.refuses(errors.TooMany, 2000, products.nested_sum, 3, 5, (12, 12, 12))
        self.refuses(errors.TooMany, 2000, products.nested_sum, 4, 4, (6,))

    def test_just_the_degree_counts(self):
        # The product of all powers of L(d) that come in has a degree above 2000; what is left in lowest terms counts.
        rows = [
            (3, 4, (12, 11, 11)), (3, 4, (12, 12, 12)), (5, 3, (12, 3, 12)), (5, 3, (12, 8)), (4, 4, (3, 11, 5)),
            (4, 4, (4, 5, 12)), (3, 5, (1, 12, 12)), (2, 6, (8, 12, 11)), (2, 6, (9, 12, 11)), (2, 6, (10, 11, 12)),
            (4, 4, (3, 10, 11)), (4, 4, (4, 11, 11)), (5, 3, (12, 12, 12)), (3, 5, (2, 12, 12)), (3, 5, (4, 11, 1)),
            # With bottoms of degree 2000 and 2002.
            (5, 3, (11, 8, 11)), (4, 4, (4, 8)), (2, 6, (10, 12, 1)), (2, 6, (10, 11, 3)), (2, 6, (10, 11, 5)),
        ]
        found, degrees = [], []
        for q, d, row in rows:
            made = Told(q).nested(d, row)
            degrees.append(len(made[1]) - 1)
            if max(len(part) for part in made) > 2001:
                self.refuses(errors.TooMany, 2000, products.nested_sum, q, d, row)
                found.append(False)
            else:
                self.assertEqual(products.nested_sum(q, d, row), made)
                found.append(sum(sum(q ** j for j in range(1, d - at + 1)) * k for at, k in enumerate(row)) > 2000)
        self.assertTrue(True in found and False in found and 2000 in degrees and 2002 in degrees)

    def test_wrong_values(self):
        for call in (products.nested_sum, products.low_nested):
            self.refuses_fields(call, 1, (1,))
            wrong = (errors.InvalidNumber, NO_COUNTS + [7, 8, 300, LONGEST]), (errors.InvalidRow, NO_ROWS)
            for q in FIELDS:
                self.refuses_in_order(lambda d, row, q=q, call=call: call(q, d, row), (1, (1,)), wrong)
                # How many there are comes behind the row.
                self.refuses(errors.InvalidRow, None, call, q, 6, (1, 1, 1, 1))


class Terms(Case):
    def test_examples(self):
        made = [
            products.product_terms(3, 2, 2), products.product_row(2, (1,), (1,)), products.product_row(3, (2,), (2,)),
            products.product_row(2, (1,), (1, 1)), products.low_product_row(3, (1,), (2,)),
        ]
        told = [((2, 1),), {(2,): 1}, {(2, 2): 1, (4,): 1}, {(2, 1): 1}, {(1, 2): 1, (2, 1): 1, (3,): 1}]
        self.assertEqual(made, told)
        self.assertEqual((products.MOST_WEIGHT, products.MOST_MEMBERS), (12, 3))

    def test_terms(self):
        for q in FIELDS:
            for i in range(1, 13):
                for j in range(1, 13):
                    made = products.product_terms(q, i, j)
                    self.assertEqual(made, told_terms(q, i, j))
                    self.assertEqual(made, products.product_terms(q, j, i))
                    self.assertEqual(list(made), sorted(made))

    def test_products_of_sums(self):
        for q in FIELDS:
            slow = Slow(q)
            rests = Rests(q, some_primes(q, 5, 1)[0])
            for i in range(1, 13):
                for j in range(i, 13):
                    rows = {(i + j - t, t): element for t, element in products.product_terms(q, i, j)}
                    rows[i + j,] = 1
                    for d in range(0, 4):
                        if q ** d <= 81:
                            both = rests.times(rests.first(d, i), rests.first(d, j))
                            self.assertEqual(rests.total(rests.nested, d, rows), both)
                        if q ** d <= 9 and i + j <= 7:
                            both = times(q, slow.first(d, i), slow.first(d, j))
                            self.assertEqual(slow.total(slow.nested, d, rows), both)

    def test_wrong_values(self):
        self.refuses_fields(products.product_terms, 1, 1)
        wrong = NO_COUNTS + [0, 13, LONGEST]
        for q in FIELDS:
            self.refuses_in_order(
                lambda i, j, q=q: products.product_terms(q, i, j), (1, 12),
                ((errors.InvalidNumber, wrong), (errors.InvalidNumber, wrong)),
            )


class Products(Case):
    def test_by_the_rules(self):
        for q in FIELDS:
            for u, v in some_rows(Numbers(q), 40, 12) + [((1, 1, 1), (2, 2, 2)), ((6,), (6,)), ((1, 1, 1), (1, 1, 7))]:
                made = products.product_row(q, u, v)
                self.assertEqual(made, told_nested(q, u, v))
                self.assertEqual(made, products.product_row(q, v, u))
                low = products.low_product_row(q, u, v)
                self.assertEqual(low, told_low(q, u, v))
                self.assertEqual(low, products.low_product_row(q, v, u))
                for rows in (made, low):
                    self.assertEqual(list(rows), sorted(rows))
                    for row, element in rows.items():
                        self.assertEqual(sum(row), sum(u) + sum(v))
                        self.assertTrue(1 <= len(row) <= len(u) + len(v))
                        self.assertTrue(1 <= element < PRIMES[q])

    def test_for_each_d(self):
        for q in FIELDS:
            rests = Rests(q, some_primes(q, 5, 1)[0])
            for u, v in some_rows(Numbers(100 + q), 25, 12):
                made, low = products.product_row(q, u, v), products.low_product_row(q, u, v)
                for d in range(0, 5):
                    if q ** d <= 100:
                        both = rests.times(rests.nested(d, u), rests.nested(d, v))
                        self.assertEqual(rests.total(rests.nested, d, made), both)
                        both = rests.times(rests.low(d, u), rests.low(d, v))
                        self.assertEqual(rests.total(rests.low, d, low), both)

    def test_for_each_d_as_quotients(self):
        for q in FIELDS:
            slow = Slow(q)
            for u, v in some_rows(Numbers(200 + q), 6, 7):
                made, low = products.product_row(q, u, v), products.low_product_row(q, u, v)
                for d in range(0, 4 if q == 2 else 3):
                    if q ** d <= 25:
                        both = times(q, slow.nested(d, u), slow.nested(d, v))
                        self.assertEqual(slow.total(slow.nested, d, made), both)
                        both = times(q, slow.low(d, u), slow.low(d, v))
                        self.assertEqual(slow.total(slow.low, d, low), both)

    def test_powers_of_the_first_sum(self):
        for q in FIELDS:
            for d in range(0, 4):
                if q ** d <= 81:
                    top = ONE if d % 2 == 0 else minus(q, ONE)
                    for k in range(1, q + 1):
                        one = (row_power(q, top, k), row_power(q, plain.least_multiple(q, d), k))
                        self.assertEqual(products.nested_sum(q, d, (k,)), one)

    def test_wrong_values(self):
        for call in (products.product_row, products.low_product_row):
            self.refuses_fields(call, (1,), (1,))
            for q in FIELDS:
                # Both rows together are judged with the second one.
                wrong = (errors.InvalidRow, NO_ROWS), (errors.InvalidRow, NO_ROWS + [(12,), (4, 4, 4), (10, 1, 1)])
                self.refuses_in_order(lambda u, v, q=q, call=call: call(q, u, v), ((1,), (11,)), wrong)
                for u, v in (((6,), (7,)), ((1, 1, 1), (4, 4, 2)), ((12,), (1,)), ((3, 3, 1), (2, 2, 2))):
                    self.refuses(errors.InvalidRow, None, call, q, u, v)
                for u, v in (((6,), (6,)), ((1, 1, 1), (4, 4, 1)), ((11,), (1,)), ((2, 2, 2), (2, 2, 2))):
                    self.assertTrue(call(q, u, v))


class NotTrue(Case):
    def test_unlike_numbers_of_rows(self):
        self.assertGreater(len({len(products.product_row(q, (3,), (3,))) for q in FIELDS}), 1)

    def test_the_plain_row_may_lack(self):
        self.assertNotIn((2,), products.product_row(2, (1,), (1, 1)))
        found = [
            (u, v) for u, v in itertools.product([(1,), (2,), (1, 1), (2, 1)], repeat=2)
            if (u[0] + v[0],) not in products.product_row(3, u, v)
        ]
        self.assertTrue(found)

    def test_low_sums_may_be_alike(self):
        for q in FIELDS:
            self.assertEqual(products.low_nested(q, 1, (1,)), products.low_nested(q, 1, (2,)))
            self.assertEqual(products.low_nested(q, 1, (1,)), (ONE, ONE))


if __name__ == "__main__":
    unittest.main()

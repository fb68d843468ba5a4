"""monicsums.whole.wholes: the points 13.1 to 13.6."""

import unittest

from monicsums import errors
from monicsums.ground import polys
from monicsums.ground.quotients import lowest, sum_of_quotients
from monicsums.ground.rows import row_divided, row_power, row_product
from monicsums.sums import plain
from monicsums.whole import factorials, wholes
from tests.support import FIELDS, LONGEST, NO_COUNTS, NO_FIELDS, Case, Numbers, digits_of, no_polynomials, no_quotients
from tests.support import slow_below

ONE = (1,)
T = (0, 1)
ZERO = ((), ONE)
UNIT = (ONE, ONE)


def monomial(degree):
    return (0,) * degree + (1,)


def times(q, one, other):
    return lowest(q, row_product(q, one[0], other[0]), row_product(q, one[1], other[1]))


def cut_row(row):
    row = list(row)
    while row and row[-1] == ZERO:
        row.pop()
    return tuple(row)


def rows_sum(q, one, other):
    size = max(len(one), len(other))
    pairs = zip(one + (ZERO,) * (size - len(one)), other + (ZERO,) * (size - len(other)))
    return cut_row([sum_of_quotients(q, a, b) for a, b in pairs])


def rows_product(q, one, other):
    made = [ZERO] * (len(one) + len(other))
    for i, a in enumerate(one):
        for j, b in enumerate(other):
            if a != ZERO and b != ZERO:
                made[i + j] = sum_of_quotients(q, made[i + j], times(q, a, b))
    return cut_row(made)


def scaled(q, quotient, row):
    return cut_row([times(q, quotient, part) for part in row])


def slow_value(q, row, a):
    total = ZERO
    for part in row[::-1]:
        total = sum_of_quotients(q, times(q, total, (a, ONE)), part)
    return total


def some_quotient(q, numbers, bottom):
    return lowest(q, numbers.polynomial(q, numbers.below(4) - 1), numbers.monic(q, numbers.below(bottom + 1)))


def some_row(q, numbers, many, bottom=2):
    return cut_row([some_quotient(q, numbers, bottom) for _ in range(many)])


def far_bottoms(q):
    """Six polynomials of a degree of 399 or 400 without common divisors."""
    found = [row_power(q, (element, 1), 400) for element in range(q)]
    found += [row_power(q, a, 200) for a in polys.primes_of(q, 2)]
    if q == 2:
        found += [row_power(q, a, 133) for a in polys.primes_of(q, 3)]
        found += [row_power(q, a, 100) for a in polys.primes_of(q, 4)]
    return found[:6]


def slow_coordinates(q, row):
    """The coordinates of a row, from the last one on."""
    found = [ZERO] * len(row)
    left = row
    while left:
        k = len(left) - 1
        found[k] = times(q, left[-1], (factorials.factorial(q, k), ONE))
        opposite = times(q, found[k], ((polys.less(q, (), ONE)), ONE))
        left = rows_sum(q, left, scaled(q, opposite, wholes.whole_base(q, k)))
    return found


def slow_of_coordinates(q, row):
    total = ()
    for k, part in enumerate(row):
        total = rows_sum(q, total, scaled(q, part, wholes.whole_base(q, k)))
    return total


def longest(row):
    """The greatest degree in a row of quotients."""
    return max(len(part) for quotient in row for part in quotient) - 1


def least_degree(q, n):
    """The least d with q ** d above n."""
    return min(d for d in range(9) if q ** d > n)


def no_rows(q):
    wrong = [[], None, "1", True, 0, (1,), [UNIT], {0: UNIT}, (ZERO,), (UNIT, ZERO), (UNIT,) * 32, UNIT, (UNIT, None)]
    return wrong + [(UNIT, one) for one in no_quotients(q)] + [(one, UNIT) for one in no_quotients(q)]


class Rows(Case):
    def test_examples(self):
        bottom = (0, 1, 1)
        self.assertEqual(wholes.base_row(2, 2), (ZERO, UNIT, UNIT))
        self.assertIs(wholes.is_whole_row(2, (ZERO, (ONE, bottom), (ONE, bottom))), True)
        self.assertEqual(wholes.coordinates(2, (ZERO, ZERO, UNIT)), (ZERO, UNIT, (bottom, ONE)))
        self.assertEqual((wholes.MAX_ROW, wholes.MAX_IMAGES), (31, 6))

    def test_rows_are_judged(self):
        for q in FIELDS:
            for row in [(), (UNIT,), (ZERO, UNIT), (ZERO,) * 30 + (UNIT,), ((monomial(400), ONE),), ((ONE, monomial(400)),)]:
                self.assertIs(wholes.is_row(q, row), True)
            for value in no_rows(q):
                self.assertIs(wholes.is_row(q, value), False)
        for q in NO_FIELDS:
            self.refuses(errors.InvalidField, None, wholes.is_row, q, ())

    def test_values(self):
        for q in FIELDS:
            numbers = Numbers(q + 800)
            for turn in range(14):
                row = some_row(q, numbers, numbers.below(9))
                a = numbers.polynomial(q, numbers.below(4) - 1)
                self.assertEqual(wholes.row_value(q, row, a), slow_value(q, row, a))
            self.assertEqual(wholes.row_value(q, (), monomial(400)), ZERO)
            self.assertEqual(wholes.row_value(q, (UNIT, UNIT), ()), UNIT)

    def test_limits_of_values(self):
        for q in FIELDS:
            power = (ZERO,) * 5 + (UNIT,)
            self.assertEqual(wholes.row_value(q, power, monomial(400)), (monomial(2000), ONE))
            self.refuses(errors.TooMany, 2000, wholes.row_value, q, power + (UNIT,), monomial(400))
            longer = (ZERO,) * 5 + (((0, 1), ONE),)
            self.refuses(errors.TooMany, 2000, wholes.row_value, q, longer, monomial(400))
            # In lowest terms the value is as long as may be.
            shorter = (ZERO,) * 6 + ((ONE, monomial(400)),)
            self.assertEqual(wholes.row_value(q, shorter, monomial(400)), (monomial(2000), ONE))
            # Bottoms that are too long together.
            bottoms = far_bottoms(q)
            row = tuple((ONE, bottom) for bottom in bottoms)
            self.refuses(errors.TooMany, 2000, wholes.row_value, q, row, ONE)
            made = wholes.row_value(q, row[:5], ONE)
            self.assertEqual(len(made[1]) - 1, sum(len(bottom) - 1 for bottom in bottoms[:5]))

    def test_wrong_values(self):
        for q in FIELDS:
            field, row = (errors.InvalidField, NO_FIELDS), (errors.InvalidRow, no_rows(q))
            a = (errors.InvalidPolynomial, no_polynomials(q))
            self.refuses_in_order(wholes.row_value, (q, (UNIT,), ONE), [field, row, a])
            for call in (wholes.coordinates, wholes.of_coordinates, wholes.is_whole_row, wholes.bad_place):
                self.refuses_in_order(call, (q, (UNIT,)), [field, row])
            self.refuses_in_order(wholes.is_bad_place, (q, (UNIT,), None), [field, row])
            number = (errors.InvalidNumber, NO_COUNTS + [31, 32, LONGEST])
            for call in (wholes.base_row, wholes.whole_base):
                self.refuses_in_order(call, (q, 1), [field, number])
            images = (errors.InvalidRow, [one for one in no_rows(q) if one not in ((ZERO,), (UNIT, ZERO))] + [
                (), (UNIT,) * 7, (ZERO,) * 7])
            self.refuses_in_order(wholes.linear_coordinates, (q, (UNIT,)), [field, images])
            long = (errors.InvalidPolynomial, no_polynomials(q) + [(0, 0, 1), monomial(400)])
            self.refuses_in_order(wholes.linear_value, (q, (UNIT, ZERO), ONE), [field, images, long])


class Bases(Case):
    def test_bases(self):
        for q in FIELDS:
            maps = []
            for d in range(0, 5):
                if q ** d <= 30:
                    row = [ZERO] * (q ** d + 1)
                    for i, low in enumerate(plain.low_coefficients(q, d)):
                        row[q ** i] = (low, ONE)
                    maps.append(tuple(row))
            for k in range(0, 31):
                told = (UNIT,)
                for d, digit in enumerate(digits_of(q, k)):
                    for _ in range(digit):
                        told = rows_product(q, told, maps[d])
                made = wholes.base_row(q, k)
                self.assertEqual((made, len(made), made[-1]), (told, k + 1, UNIT))
                whole = wholes.whole_base(q, k)
                self.assertEqual(whole, scaled(q, (ONE, factorials.factorial(q, k)), told))
                self.assertIs(wholes.is_whole_row(q, whole), True)
                self.assertIsNone(wholes.bad_place(q, whole))
                self.assertEqual(wholes.coordinates(q, whole), (ZERO,) * k + (UNIT,))
                self.assertEqual(wholes.of_coordinates(q, (ZERO,) * k + (UNIT,)), whole)

    def test_whole_bases_take_whole_values(self):
        for q in FIELDS:
            for k in (1, q - 1, q, q + 1, 2 * q, 24, 29, 30):
                whole = wholes.whole_base(q, k)
                for a in slow_below(q, 3 if q < 4 else 2)[:30]:
                    self.assertEqual(wholes.row_value(q, whole, a)[1], ONE)

    def test_coordinates(self):
        for q in FIELDS:
            numbers = Numbers(q + 810)
            for turn in range(10):
                row = some_row(q, numbers, 1 + turn * 3)
                made = wholes.coordinates(q, row)
                self.assertEqual((len(made), wholes.is_row(q, made)), (len(row), True))
                self.assertEqual(wholes.of_coordinates(q, made), row)
                if turn < 5:
                    total = ()
                    for k, part in enumerate(made):
                        total = rows_sum(q, total, scaled(q, part, wholes.whole_base(q, k)))
                    self.assertEqual(total, row)
                self.assertEqual(wholes.coordinates(q, wholes.of_coordinates(q, row)), row)
            self.assertEqual((wholes.coordinates(q, ()), wholes.of_coordinates(q, ())), ((), ()))

    def test_limits_of_coordinates(self):
        for q in (2, 3, 5):
            bottoms = far_bottoms(q)
            for many in (3, 5, 6):
                row = (ZERO,) + tuple((ONE, bottom) for bottom in bottoms[:many])
                for call, slow in ((wholes.coordinates, slow_coordinates), (wholes.of_coordinates, slow_of_coordinates)):
                    told = slow(q, row)
                    if longest(told) > 2000:
                        self.refuses(errors.TooMany, 2000, call, q, row)
                    else:
                        self.assertEqual(call(q, row), tuple(told))
            self.assertIs(wholes.is_whole_row(q, row), False)
            self.assertIs(wholes.is_bad_place(q, row, wholes.bad_place(q, row)), True)
        self.refuses(errors.TooMany, 2000, wholes.coordinates, 2, (ZERO,) + tuple(
            (ONE, bottom) for bottom in far_bottoms(2)))
        for q in FIELDS:
            long = (ZERO,) * 30 + ((monomial(400), ONE),)
            self.assertEqual(wholes.coordinates(q, long)[30], (row_product(
                q, monomial(400), factorials.factorial(q, 30)), ONE))


class Wholes(Case):
    def places(self, q, row):
        """All polynomials below the told degree, and whether the value there is whole."""
        d = least_degree(q, len(row) - 1)
        return {a: slow_value(q, row, a)[1] == ONE for a in slow_below(q, d)}

    def test_rows(self):
        for q in FIELDS:
            numbers = Numbers(q + 820)
            for turn in range(16):
                many = 1 + numbers.below(2 * q + 2 if q < 5 else q + 2)
                if turn % 2:
                    row = some_row(q, numbers, many, turn % 3)
                else:
                    # Coordinates that are whole, or all of them but one.
                    row = [(numbers.polynomial(q, numbers.below(3) - 1), ONE) for _ in range(many - 1)] + [UNIT]
                    if turn % 4:
                        row[numbers.below(many)] = (ONE, numbers.monic(q, 1))
                    row = wholes.of_coordinates(q, cut_row(row))
                told = self.places(q, row)
                self.assertIs(wholes.is_whole_row(q, row), all(told.values()))
                whole = all(bottom == ONE for _, bottom in wholes.coordinates(q, row))
                self.assertIs(wholes.is_whole_row(q, row), whole)
                bad = wholes.bad_place(q, row)
                if whole:
                    self.assertIsNone(bad)
                else:
                    self.assertIs(told[bad], False)
                for a in told:
                    self.assertIs(wholes.is_bad_place(q, row, a), not told[a])
                far = monomial(least_degree(q, len(row) - 1))
                for value in no_polynomials(q) + [far, (True,), (1, True)]:
                    self.assertIs(wholes.is_bad_place(q, row, value), False)

    def test_small_rows(self):
        for q in FIELDS:
            self.assertEqual((wholes.is_whole_row(q, ()), wholes.bad_place(q, ())), (True, None))
            self.assertIs(wholes.is_bad_place(q, (), ()), False)
            row = ((ONE, T),)
            self.assertEqual((wholes.is_whole_row(q, row), wholes.bad_place(q, row)), (False, ()))
            self.assertIs(wholes.is_bad_place(q, row, ()), True)
            self.assertIs(wholes.is_bad_place(q, row, ONE), False)

    def test_rows_that_are_bad_at_few_places(self):
        # A whole base row of degree 24 or 30 over T is bad only where no e_i of its digits is 0.
        for q in FIELDS:
            for k in (24, 30, q ** 2 if q < 6 else q):
                row = scaled(q, (ONE, T), wholes.whole_base(q, k))
                self.assertIs(wholes.is_whole_row(q, row), False)
                bad = wholes.bad_place(q, row)
                self.assertLessEqual(len(bad), least_degree(q, k))
                self.assertNotEqual(wholes.row_value(q, row, bad)[1], ONE)
                self.assertIs(wholes.is_bad_place(q, row, bad), True)
                self.assertIs(wholes.is_bad_place(q, row, ()), False)

    def test_sums_and_products(self):
        for q in FIELDS:
            one, other = wholes.whole_base(q, q), wholes.whole_base(q, q + 1)
            self.assertIs(wholes.is_whole_row(q, rows_sum(q, one, other)), True)
            self.assertIs(wholes.is_whole_row(q, rows_product(q, one, other)), True)
            # Whole everywhere without whole coefficients.
            self.assertTrue(any(bottom != ONE for _, bottom in one))

    def test_what_is_not_true(self):
        # Of degree 2, whole at 0, 1 and T, and not at T + 1.
        bottom = (0, 1)
        found = []
        for top in slow_below(2, 2):
            for low in slow_below(2, 2):
                row = cut_row((ZERO, lowest(2, top, (0, 1, 1)), lowest(2, low, (0, 1, 1))))
                if len(row) == 3 and all(wholes.row_value(2, row, a)[1] == ONE for a in ((), ONE, T)):
                    found.append(wholes.is_whole_row(2, row))
        row = (ZERO, ZERO, (ONE, bottom))
        self.assertIs(wholes.is_whole_row(2, row), False)
        self.assertTrue(found)
        # For q = 5 the elements 2, 3 and 4 are places, too: x (x - 1) / T is whole at 0, 1 and T.
        row = (ZERO, (tuple([4]), T), (ONE, T))
        self.assertEqual([wholes.row_value(5, row, a)[1] for a in ((), ONE, T)], [ONE, ONE, ONE])
        self.assertIs(wholes.is_whole_row(5, row), False)
        # The coordinates of x * x for q = 2 are no products of those of x.
        one = wholes.coordinates(2, (ZERO, UNIT))
        self.assertEqual((one, wholes.coordinates(2, (ZERO, ZERO, UNIT))[1]), ((ZERO, UNIT), UNIT))


class Linear(Case):
    def test_maps(self):
        for q in FIELDS:
            numbers = Numbers(q + 830)
            for turn in range(12):
                images = tuple(some_quotient(q, numbers, turn % 3) for _ in range(1 + turn % (3 if q > 4 else 4)))
                made = wholes.linear_coordinates(q, images)
                self.assertEqual(len(made), len(images))
                self.assertIs(all(b == ONE for _, b in made), all(b == ONE for _, b in images))
                for a in slow_below(q, len(images))[:40]:
                    told = ZERO
                    for at, element in enumerate(a):
                        told = sum_of_quotients(q, told, times(q, images[at], ((element,) if element else (), ONE)))
                    self.assertEqual(wholes.linear_value(q, images, a), told)
                    total = ZERO
                    for i, part in enumerate(made):
                        if len(a) > i:
                            value = row_divided(q, plain.low_value(q, i, a), plain.all_product(q, i))
                            self.assertEqual(value[1], ())
                            total = sum_of_quotients(q, total, times(q, part, (value[0], ONE)))
                    self.assertEqual(total, told)
            self.assertEqual(wholes.linear_coordinates(q, (ZERO,) * 6), (ZERO,) * 6)
            # The map a itself: E_0 alone. The map that is 1 at T ** 5 alone: E_5 alone.
            self.assertEqual(wholes.linear_coordinates(q, tuple((monomial(j), ONE) for j in range(6))), (UNIT,) + (ZERO,) * 5)
            self.assertEqual(wholes.linear_coordinates(q, (ZERO,) * 5 + (UNIT,)), (ZERO,) * 5 + (UNIT,))

    def test_limits(self):
        for q in FIELDS:
            # E_4 is at T ** 5 of degree q ** 4.
            images = (ZERO,) * 4 + (UNIT, ZERO)
            if q ** 4 <= 2000:
                self.assertEqual(len(wholes.linear_coordinates(q, images)[5][0]) - 1, q ** 4)
            else:
                self.refuses(errors.TooMany, 2000, wholes.linear_coordinates, q, images)
            self.assertEqual(wholes.linear_value(q, images, (0, 0, 0, 0, 1, 1)), UNIT)
            images = tuple((ONE, bottom) for bottom in far_bottoms(q))
            self.refuses(errors.TooMany, 2000, wholes.linear_value, q, images, (1,) * 6)
            told = sum(len(bottom) - 1 for _, bottom in images[:5])
            self.assertEqual(len(wholes.linear_value(q, images, (1,) * 5)[1]) - 1, told)
            self.refuses(errors.TooMany, 2000, wholes.linear_coordinates, q, images)
            for j in range(6):
                self.assertEqual(wholes.linear_value(q, images, monomial(j)), images[j])


if __name__ == "__main__":
    unittest.main()

"""monicsums.ground.quotients: the point 2.6."""

import unittest

from monicsums import errors
from monicsums.ground import polys, quotients
from tests.support import FIELDS, Case, Numbers, no_polynomials, no_quotients
from tests.support import slow_added, slow_less, slow_times

PAIRS = [quotients.quotient_sum, quotients.quotient_less, quotients.quotient_product]
ONES = [quotients.quotient_inverse, quotients.size_of, quotients.is_whole_quotient]
ZERO = ((), (1,))
ONE = ((1,), (1,))


def samples(q, many):
    """Some quotients, 0 and whole ones among them."""
    numbers = Numbers(q + 80)
    found = [ZERO, ONE, ((q - 1,), (1,)), ((0, 1), (1,)), ((1,), (0, 1))]
    for _ in range(many):
        top = numbers.polynomial(q, numbers.below(5) - 1)
        found.append(quotients.quotient_of(q, top, numbers.polynomial(q, numbers.below(4))))
    return found


class Quotients(Case):
    def equal(self, q, one, a, b):
        """Whether the quotient is in lowest terms, and is a divided by b."""
        top, bottom = one
        self.assertTrue(quotients.is_quotient(q, one))
        self.assertTrue(polys.is_monic(q, bottom))
        self.assertEqual(polys.common(q, top, bottom)[0], (1,))
        self.assertEqual(slow_times(q, top, b), slow_times(q, bottom, a))

    def test_is_quotient(self):
        for q in FIELDS:
            far = (0,) * 400 + (1,)
            for one in samples(q, 20) + [(far, (1,)), ((1,), far), (far, (1, 1))]:
                self.assertIs(quotients.is_quotient(q, one), True)
            for value in no_quotients(q):
                self.assertIs(quotients.is_quotient(q, value), False)
            for value in no_polynomials(q):
                self.assertIs(quotients.is_quotient(q, (value, (1,))), False)
                self.assertIs(quotients.is_quotient(q, ((1,), value)), False)

    def test_quotient_of(self):
        for q in FIELDS:
            numbers = Numbers(q + 90)
            for _ in range(40):
                a, b = numbers.polynomial(q, numbers.below(6) - 1), numbers.polynomial(q, numbers.below(5))
                self.equal(q, quotients.quotient_of(q, a, b), a, b)
            self.assertEqual(quotients.quotient_of(q, (), (0, q - 1)), ZERO)
            self.assertEqual(quotients.quotient_of(q, (0, 0, q - 1), (0, q - 1)), ((0, 1), (1,)))
            self.refuses_zero(quotients.quotient_of, q, (1,), ())
            self.refuses_zero(quotients.quotient_of, q, (), ())
            for value in no_polynomials(q):
                self.refuses(errors.InvalidPolynomial, None, quotients.quotient_of, q, value, ())
                self.refuses(errors.InvalidPolynomial, None, quotients.quotient_of, q, (1,), value)

    def test_is_whole(self):
        for q in FIELDS:
            for one in samples(q, 20):
                self.assertIs(quotients.is_whole_quotient(q, one), one[1] == (1,))

    def test_signs(self):
        for q in FIELDS:
            for one in samples(q, 8):
                for other in samples(q, 8):
                    crossed = [slow_times(q, one[0], other[1]), slow_times(q, other[0], one[1])]
                    bottom = slow_times(q, one[1], other[1])
                    self.equal(q, quotients.quotient_sum(q, one, other), slow_added(q, *crossed), bottom)
                    self.equal(q, quotients.quotient_less(q, one, other), slow_less(q, *crossed), bottom)
                    top = slow_times(q, one[0], other[0])
                    self.equal(q, quotients.quotient_product(q, one, other), top, bottom)

    def test_inverse_and_size(self):
        for q in FIELDS:
            for one in samples(q, 20):
                if one == ZERO:
                    self.refuses_zero(quotients.quotient_inverse, q, one)
                    self.refuses_zero(quotients.size_of, q, one)
                    continue
                other = quotients.quotient_inverse(q, one)
                self.equal(q, other, one[1], one[0])
                self.assertEqual(quotients.quotient_product(q, one, other), ONE)
                self.assertEqual(quotients.size_of(q, one), len(one[0]) - len(one[1]))
            self.assertEqual(quotients.size_of(q, ((0,) * 400 + (1,), (1,))), 400)
            self.assertEqual(quotients.size_of(q, ((1,), (0,) * 400 + (1,))), -400)

    def test_long_ones(self):
        for q in FIELDS:
            numbers = Numbers(q + 100)
            one = quotients.quotient_of(q, numbers.polynomial(q, 400), numbers.polynomial(q, 400))
            other = quotients.quotient_of(q, numbers.polynomial(q, 399), numbers.polynomial(q, 400))
            both = quotients.quotient_product(q, one, other)
            bottom = polys.times(q, one[1], other[1])
            self.assertEqual(len(bottom) - len(both[1]), len(polys.times(q, one[0], other[0])) - len(both[0]))
            whole = quotients.quotient_sum(q, one, other)
            self.assertLessEqual(len(whole[1]), 801)
            # What is too long to be passed is refused, though it was returned.
            self.refuses(errors.InvalidQuotient, None, quotients.quotient_less, q, whole, other)

    def test_wrong_values(self):
        for call in PAIRS:
            self.refuses_fields(call, ONE, ONE)
        for call in ONES + [quotients.is_quotient]:
            self.refuses_fields(call, ONE)
        self.refuses_fields(quotients.quotient_of, (1,), (1,))
        for q in FIELDS:
            for value in no_quotients(q):
                for call in PAIRS:
                    self.refuses(errors.InvalidQuotient, None, call, q, value, ONE)
                    self.refuses(errors.InvalidQuotient, None, call, q, ONE, value)
                    self.refuses(errors.InvalidQuotient, None, call, q, value, None)
                for call in ONES:
                    self.refuses(errors.InvalidQuotient, None, call, q, value)


if __name__ == "__main__":
    unittest.main()

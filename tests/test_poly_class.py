"""The class Poly of monicsums.ground.polys."""

import unittest

from monicsums import errors
from monicsums.ground import polys
from monicsums.ground.polys import Poly
from tests.support import FIELDS, LONGEST, NO_COUNTS, NO_FIELDS, TOO_LONG, Case, Numbers, no_polynomials
from tests.support import slow_added, slow_times


def apply(sign, one, other):
    """What the sign makes of both."""
    made = {
        "+": lambda: one + other, "-": lambda: one - other, "*": lambda: one * other, "//": lambda: one // other,
        "%": lambda: one % other, "**": lambda: one ** other,
    }
    return made[sign]()


class Polys(Case):
    def test_properties(self):
        for q in FIELDS:
            for a in [(), (1,), (0, 1), (q - 1, 0, 1), (0,) * 400 + (1,)]:
                one = Poly(q, a)
                self.assertEqual((one.field, one.coefficients, one.degree), (q, a, len(a) - 1))
                self.assertEqual((len(one), bool(one), list(one)), (len(a), a != (), list(a)))
                for word in ("field", "coefficients", "degree"):
                    self.assertRaises(AttributeError, setattr, one, word, 1)

    def test_wrong_values(self):
        for q in FIELDS:
            for value in no_polynomials(q):
                self.refuses(errors.InvalidPolynomial, None, Poly, q, value)
        for q in NO_FIELDS:
            self.refuses(errors.InvalidField, None, Poly, q, None)

    def test_signs(self):
        for q in FIELDS:
            numbers = Numbers(q + 60)
            for _ in range(12):
                a, b = numbers.polynomial(q, numbers.below(9) - 1), numbers.polynomial(q, numbers.below(5))
                one, other = Poly(q, a), Poly(q, b)
                told = [polys.added(q, a, b), polys.less(q, a, b), polys.times(q, a, b), *polys.divided(q, a, b)]
                made = [one + other, one - other, one * other, one // other, one % other]
                self.assertEqual([each.coefficients for each in made], told)
                self.assertEqual({(type(each), each.field) for each in made}, {(Poly, q)})
                self.assertEqual((one ** 3).coefficients, polys.power(q, a, 3))
                self.assertEqual((one.coefficients, other.coefficients), (a, b))

    def test_other_operands(self):
        one = Poly(5, (1, 1))
        for sign in ("+", "-", "*", "//", "%"):
            for value in NO_COUNTS + [0, 1, (1,), [1], "a"]:
                if not isinstance(value, Poly):
                    self.assertRaises(TypeError, apply, sign, one, value)
                    if not (sign == "%" and isinstance(value, str)):
                        self.assertRaises(TypeError, apply, sign, value, one)
            for q in FIELDS:
                if q != 5:
                    self.refuses(errors.InvalidField, None, apply, sign, one, Poly(q, ()))
                    self.refuses(errors.InvalidField, None, apply, sign, Poly(q, (1,) * 400), one)
        self.assertRaises(TypeError, apply, "**", 2, one)

    def test_division_by_zero(self):
        for q in FIELDS:
            for sign in ("//", "%"):
                self.refuses_zero(apply, sign, Poly(q, (0, 1)), Poly(q, ()))

    def test_powers(self):
        for q in FIELDS:
            one = Poly(q, (0, 1))
            for k in NO_COUNTS:
                self.refuses_number(k, apply, "**", one, k)
            self.refuses_number(one, apply, "**", one, one)
            self.assertEqual((one ** 2000).degree, 2000)
            self.refuses(errors.TooMany, 2000, apply, "**", one, 2001)
            self.assertEqual((one ** 0).coefficients, (1,))
            self.assertEqual((Poly(q, ()) ** 0).coefficients, (1,))
            self.assertEqual((Poly(q, ()) ** LONGEST).coefficients, ())
            self.assertEqual((Poly(q, (1,)) ** LONGEST).coefficients, (1,))

    def test_long_ones(self):
        for q in FIELDS:
            one = Poly(q, Numbers(q).polynomial(q, 400))
            square = one * one
            self.assertEqual(square.degree, 800)
            self.assertEqual(((square * one) // square), one)
            self.assertEqual((square * square * one).degree, 2000)
            long = one ** 5
            self.assertEqual(long, square * square * one)
            self.assertEqual((long + long).degree, -1 if q in (2, 4, 8) else 2000)
            self.assertEqual((long % square, long // one), (Poly(q, ()), square * square))
            self.refuses(errors.TooMany, 2000, apply, "*", long, Poly(q, (0, 1)))
            self.refuses(errors.TooMany, 2000, apply, "**", long, 2)
            self.refuses(errors.TooMany, 2000, apply, "*", long, long)
            self.assertEqual((long * Poly(q, ()), (Poly(q, ()) * long).degree), (Poly(q, ()), -1))
            self.assertEqual((long * Poly(q, (1,))), long)
            # A polynomial that is too long to be passed is refused, though it was made.
            self.refuses(errors.InvalidPolynomial, None, Poly, q, long.coefficients)
            self.assertEqual(long(0), polys.power(q, (one(0),), 5)[0] if one(0) else 0)

    def test_values(self):
        for q in FIELDS:
            numbers = Numbers(q + 70)
            for _ in range(6):
                a = numbers.polynomial(q, numbers.below(8) - 1)
                for element in range(q):
                    made = ()
                    for x in reversed(a):
                        made = slow_added(q, slow_times(q, made, (element,) if element else ()), (x,) if x else ())
                    self.assertEqual(Poly(q, a)(element), made[0] if made else 0)
            for value in NO_COUNTS + [q]:
                self.refuses_number(value, Poly(q, (0, 1)), value)

    def test_equality(self):
        one = Poly(3, (0, 1))
        self.assertTrue(one == Poly(3, (0, 1)) and not one != Poly(3, (0, 1)))
        for value in [Poly(2, (0, 1)), Poly(3, (0, 2)), Poly(3, ()), (0, 1), [0, 1], TOO_LONG] + NO_COUNTS:
            self.assertIs(one == value, False)
            self.assertIs(one != value, True)
        self.assertNotIn((0, 1), [one])

    def test_texts(self):
        texts = {
            (3, (2, 1, 0, 2)): "2 + T + 2 T^3 over 3", (4, ()): "0 over 4", (2, (1,)): "1 over 2",
            (2, (0, 1)): "T over 2", (5, (0, 4)): "4 T over 5", (7, (0, 0, 1)): "T^2 over 7",
            (9, (1, 8, 0, 1)): "1 + 8 T + T^3 over 9", (8, (7, 0, 5)): "7 + 5 T^2 over 8",
            (2, (0,) * 400 + (1,)): "T^400 over 2",
        }
        for (q, a), text in texts.items():
            self.assertEqual(str(Poly(q, a)), text)


if __name__ == "__main__":
    unittest.main()

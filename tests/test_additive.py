"""monicsums.tables.additive: the points 8.1 to 8.7."""

import itertools
import unittest

from monicsums import errors
from monicsums.ground.polys import Poly
from monicsums.sums import plain
from monicsums.tables import additive
from monicsums.tables.additive import Additive
from tests.support import FIELDS, NESTED, NO_COUNTS, NO_FIELDS, TOO_LONG, Case, Numbers, minus, no_polynomials
from tests.support import slow_added, slow_below, slow_less, slow_power, slow_times

ONE = (1,)


def monomial(degree):
    return (0,) * degree + (1,)


def scaling(q, degree):
    """The map T ** degree x, by products of shorter ones."""
    made = Additive(q, (ONE,))
    while degree > 0:
        made = Additive(q, (monomial(min(degree, 400)),)) * made
        degree -= min(degree, 400)
    return made


def step(q, many=1):
    """The map x ** (q ** many)."""
    return Additive(q, ((),) * many + (ONE,))


def value(q, parts, a):
    total = ()
    for i, part in enumerate(parts):
        total = slow_added(q, total, slow_times(q, part, slow_power(q, a, q ** i)))
    return total


def some_map(q, numbers, many, degree=3):
    """A map with this number of parts."""
    if many == 0:
        return Additive(q, ())
    parts = [numbers.polynomial(q, numbers.below(degree + 2) - 1) for _ in range(many - 1)]
    return Additive(q, tuple(parts) + (numbers.polynomial(q, numbers.below(degree + 1)),))


def no_rows(q):
    """Values that are no rows of one to eight polynomials."""
    wrong = [value for value in no_polynomials(q) if value not in (((),), ((1,),), ((), (1,)))]
    values = [None, "", [], {}, (), 1, True, [(1,)], [[1]], {(1,): 1}, ((1,),) * 9, NESTED, (1,), (0, 1)]
    return values + [((1,), one) for one in wrong if not (isinstance(one, tuple) and one == ())]


class Maps(Case):
    def test_examples(self):
        one = Additive(2, ((0, 1), (1,)))
        made = [(one * one).parts, one((1, 1)), additive.moore(2, ((1,), (0, 1)))]
        made += [additive.dependence(3, ((1, 1), (2, 2))), additive.span_additive(2, ((1,), (0, 1))).parts]
        told = [((0, 0, 1), (0, 1, 1), (1,)), (1, 1), (0, 1, 1), (1, 1), ((0, 1, 1), (1, 1, 1), (1,))]
        self.assertEqual((made[:3], made[4]), (told[:3], told[4]))
        self.assertIs(additive.is_dependence(3, ((1, 1), (2, 2)), made[3]), True)
        self.assertEqual((additive.MAX_PARTS, additive.MAX_ROW), (12, 8))

    def test_properties(self):
        for q in FIELDS:
            for parts in [(), (ONE,), ((), (), monomial(400)), (ONE,) * 12, ((q - 1,), (0, 1))]:
                one = Additive(q, parts)
                self.assertEqual((one.over, one.parts, len(one), bool(one)), (q, parts, len(parts), parts != ()))
                self.assertEqual(str(one), f"additive map over {q} with {len(parts)} parts")
                for word in ("over", "parts"):
                    self.assertRaises(AttributeError, setattr, one, word, 1)
                self.assertRaises(TypeError, iter, one)

    def test_wrong_values(self):
        for q in FIELDS:
            wrong = [one for one in no_polynomials(q) if one not in (((),), ((1,),), ((), (1,)))]
            wrong += [((),), (ONE, ()), (ONE,) * 13, ((),) * 12 + (ONE,), [ONE], {0: ONE}, (1,), "1", True, None]
            wrong += [(ONE, one) for one in no_polynomials(q)] + [(one, ONE) for one in no_polynomials(q) if one != ()]
            for parts in wrong:
                self.refuses(errors.InvalidRow, None, Additive, q, parts)
            for a in no_polynomials(q):
                self.refuses(errors.InvalidPolynomial, None, Additive(q, (ONE, ONE)), a)
        for q in NO_FIELDS:
            self.refuses(errors.InvalidField, None, Additive, q, ((1,),))
            self.refuses(errors.InvalidField, None, Additive, q, None)

    def test_signs(self):
        for q in FIELDS:
            numbers = Numbers(q + 400)
            for turn in range(14):
                one, other = some_map(q, numbers, turn % 4), some_map(q, numbers, numbers.below(4))
                before = (one.parts, other.parts)
                u = numbers.polynomial(q, numbers.below(3))
                self.assertEqual(one(u), value(q, one.parts, u))
                self.assertEqual((one + other)(u), slow_added(q, one(u), other(u)))
                self.assertEqual((one - other)(u), slow_less(q, one(u), other(u)))
                self.assertEqual((-one)(u), minus(q, one(u)))
                self.assertEqual((one + -one, one - one), (Additive(q, ()), Additive(q, ())))
                both = one * other
                self.assertEqual(len(both), len(one) + len(other) - 1 if one and other else 0)
                if q < 4 or len(both) < 4:
                    self.assertEqual(value(q, both.parts, u), value(q, one.parts, value(q, other.parts, u)))
                for made in (one + other, one - other, -one, both):
                    self.assertEqual((type(made), made.over), (Additive, q))
                    self.assertTrue(made.parts == () or made.parts[-1] != ())
                self.assertEqual((one.parts, other.parts), before)

    def test_values_are_additive(self):
        for q in FIELDS:
            numbers = Numbers(q + 410)
            one = some_map(q, numbers, 3, 9)
            a, b = numbers.polynomial(q, 7), numbers.polynomial(q, 4)
            self.assertEqual(one(slow_added(q, a, b)), slow_added(q, one(a), one(b)))
            for element in range(1, q):
                self.assertEqual(one(slow_times(q, (element,), a)), slow_times(q, (element,), one(a)))
            self.assertEqual((one(()), Additive(q, ())(a)), ((), ()))

    def test_compositions(self):
        for q in FIELDS:
            numbers = Numbers(q + 420)
            for turn in range(8):
                a, b, c = (some_map(q, numbers, 1 + (turn + at) % 3, 2) for at in range(3))
                self.assertEqual((a * b) * c, a * (b * c))
                self.assertEqual(a * (b + c), a * b + a * c)
                self.assertEqual((a + b) * c, a * c + b * c)
            # T x and x ** q do not exchange.
            one, other = Additive(q, ((0, 1),)), step(q)
            self.assertEqual(((one * other).parts, (other * one).parts), (((), (0, 1)), ((), monomial(q))))

    def test_other_operands(self):
        one = Additive(3, (ONE, ONE))
        calls = [lambda a, b: a + b, lambda a, b: a - b, lambda a, b: a * b]
        for call in calls:
            for other in NO_COUNTS + [0, 1, 2, ((1,),), (0, 1), "a", Poly(3, (1,))]:
                self.assertRaises(TypeError, call, one, other)
                self.assertRaises(TypeError, call, other, one)
            for q in FIELDS:
                if q != 3:
                    self.refuses(errors.InvalidField, None, call, one, Additive(q, ()))
                    self.refuses(errors.InvalidField, None, call, Additive(q, (ONE,) * 12), one)

    def test_equality(self):
        one = Additive(3, ((0, 1),))
        self.assertTrue(one == Additive(3, ((0, 1),)) and not one != Additive(3, ((0, 1),)))
        for other in NO_COUNTS + [Additive(2, ((0, 1),)), Additive(3, ()), Additive(3, ((0, 2),)), ((0, 1),), TOO_LONG]:
            self.assertIs(one == other, False)
            self.assertIs(one != other, True)
        # Equal values at all elements of the field: x and x ** q.
        for q in FIELDS:
            one, other = Additive(q, (ONE,)), step(q)
            for element in range(q):
                a = (element,) if element else ()
                self.assertEqual(one(a), other(a))
            self.assertNotEqual(one, other)

    def test_too_many_parts(self):
        for q in FIELDS:
            self.assertEqual((step(q, 6) * step(q, 5)).parts, ((),) * 11 + (ONE,))
            self.refuses(errors.TooMany, 12, lambda: step(q, 6) * step(q, 6))
            # Too many parts come ahead of too long ones.
            self.refuses(errors.TooMany, 12, lambda: step(q, 11) * Additive(q, ((), (0, 1))))
            self.refuses(errors.TooMany, 2000, lambda: step(q, 11) * Additive(q, ((0, 1),)))
            self.assertEqual((step(q, 11) * Additive(q, ((q - 1,),))).parts[-1], (q - 1,))
            self.assertEqual(Additive(q, ()) * step(q, 11), Additive(q, ()))
            self.assertEqual((step(q, 11) * Additive(q, ())).parts, ())

    def test_too_long_parts(self):
        for q in FIELDS:
            longest = scaling(q, 2000)
            self.assertEqual(longest.parts, (monomial(2000),))
            self.refuses(errors.TooMany, 2000, lambda: longest * scaling(q, 1))
            self.refuses(errors.TooMany, 2000, lambda: scaling(q, 1) * longest)
            self.assertEqual(((longest + longest) - longest, -(-longest)), (longest, longest))
            degree = 2000 // q
            self.assertEqual((step(q) * scaling(q, degree)).parts, ((), monomial(degree * q)))
            self.refuses(errors.TooMany, 2000, lambda: step(q) * scaling(q, degree + 1))
            # A part below the last one may be the one that is too long.
            self.refuses(errors.TooMany, 2000, lambda: step(q) * (scaling(q, degree + 1) + step(q)))
        # Two terms of degree 3200 add up to 0 in one part, but another part is of degree 6400.
        one = Additive(2, ((), (), (), ONE, ONE))
        self.refuses(errors.TooMany, 2000, lambda: one * Additive(2, (monomial(200), monomial(400))))

    def test_too_long_values(self):
        for q in FIELDS:
            longest = scaling(q, 2000)
            self.assertEqual(longest(ONE), monomial(2000))
            self.assertEqual(longest(()), ())
            self.refuses(errors.TooMany, 2000, longest, (0, 1))
            degree = min(400, 2000 // q)
            self.assertEqual(step(q)(monomial(degree)), monomial(degree * q))
            if degree < 400:
                self.refuses(errors.TooMany, 2000, step(q), monomial(degree + 1))
            self.refuses(errors.TooMany, 2000, step(q, 11), (0, 1))
            self.assertEqual(step(q, 11)((q - 1,)), (q - 1,))
            # Terms of degree 400 * q + 1700 that add up to 0: T ** 1700 x ** q and T ** (1700 - 400 * q) x ** (2 q).
            lower = 400 * q - 400
            if lower <= 2000:
                whole = scaling(q, lower) - step(q)
                self.assertEqual(whole(monomial(400)), ())
        whole = scaling(2, 1700) * step(2) + scaling(2, 900) * step(2, 2)
        self.assertEqual(whole(monomial(400)), ())
        self.assertEqual((whole + Additive(2, (ONE,)))(monomial(400)), monomial(400))
        self.refuses(errors.TooMany, 2000, whole, monomial(399))
        self.refuses(errors.TooMany, 2000, whole + scaling(2, 1601), monomial(400))
        self.assertEqual((whole + scaling(2, 1600))(monomial(400)), monomial(2000))


class Divisions(Case):
    def test_right_divisions(self):
        for q in FIELDS:
            numbers = Numbers(q + 430)
            for turn in range(12):
                one = some_map(q, numbers, numbers.below(5), 3)
                other = some_map(q, numbers, turn % 3, 1 if q < 5 else 0) + Additive(q, ((),) * 3 + ((1 + turn % (q - 1),),))
                other = other if turn % 4 else Additive(q, (ONE, (q - 1,)))
                quotient, rest = one.right_divided(other)
                self.assertEqual(quotient * other + rest, one)
                self.assertLess(len(rest), len(other))
                # The quotient and the rest are the only ones.
                if len(quotient) < 3:
                    again = (quotient * other).right_divided(other)
                    self.assertEqual(again, (quotient, Additive(q, ())))
            self.assertEqual(Additive(q, ()).right_divided(step(q)), (Additive(q, ()), Additive(q, ())))
            half = Additive(q, ((0, 1),)).right_divided(Additive(q, ((q - 1,),)))
            self.assertEqual(half[0] * Additive(q, ((q - 1,),)), Additive(q, ((0, 1),)))

    def test_wrong_values(self):
        for q in FIELDS:
            one = Additive(q, (ONE, ONE))
            others = [Additive(other, (ONE,)) for other in FIELDS if other != q]
            wrong = [Additive(q, ()), Additive(q, ((0, 1),)), Additive(q, (ONE, (1, 1))), Poly(q, (1,))]
            for other in wrong + others + NO_COUNTS + [((1,),)]:
                self.refuses(errors.InvalidOperation, None, one.right_divided, other)

    def test_limits(self):
        for q in FIELDS:
            other = Additive(q, ((0, 1), ONE))
            self.assertEqual((scaling(q, 1999) * step(q)).right_divided(other)[0], scaling(q, 1999))
            self.refuses(errors.TooMany, 2000, (scaling(q, 2000) * step(q)).right_divided, other)
            # The quotient is T ** 400 and 1, and the rest is as long as T ** 400 to the power q + 1.
            one, long = step(q, 2), Additive(q, (monomial(400), ONE))
            if 400 * (q + 1) <= 2000:
                quotient, rest = one.right_divided(long)
                self.assertEqual((quotient * long + rest, len(rest.parts[0])), (one, 400 * (q + 1) + 1))
            else:
                self.refuses(errors.TooMany, 2000, one.right_divided, long)
            self.refuses(errors.TooMany, 2000, step(q, 11).right_divided, other)
            self.assertEqual(step(q, 11).right_divided(step(q))[0], step(q, 10))


def determinant(q, row):
    """The determinant by all orders of its columns."""
    total = ()
    for order in itertools.permutations(range(len(row))):
        turns = sum(1 for i in range(len(row)) for j in range(i) if order[j] > order[i])
        part = ONE
        for w, j in zip(row, order):
            part = slow_times(q, part, slow_power(q, w, q ** j))
        total = slow_less(q, total, part) if turns % 2 else slow_added(q, total, part)
    return total


def sums_of(q, row):
    """The pairs of all tuples of elements and of the sums that they make of a row."""
    for told in itertools.product(range(q), repeat=len(row)):
        total = ()
        for element, w in zip(told, row):
            total = slow_added(q, total, slow_times(q, (element,) if element else (), w))
        yield told, total


class Rows(Case):
    def some_rows(self, q, most):
        numbers = Numbers(q + 440)
        for turn in range(14):
            many = 1 + turn % most
            row = [numbers.polynomial(q, numbers.below(3) - 1) for _ in range(many)]
            if turn % 5 == 4 and many > 1:
                row[-1] = slow_added(q, row[0], slow_times(q, (q - 1,), row[1]))
            yield tuple(row)

    def test_determinants(self):
        for q in FIELDS:
            for row in self.some_rows(q, 3 if q < 4 else 2):
                made = additive.moore(q, row)
                self.assertEqual(made, determinant(q, row))
                product = ONE
                for told, total in sums_of(q, row):
                    if [element for element in told if element][-1:] == [1]:
                        product = slow_times(q, product, total)
                self.assertEqual(made, product)
                self.assertIs(made == (), additive.dependence(q, row) is not None)
                by_spans = row[0]
                for at in range(1, len(row)):
                    by_spans = slow_times(q, by_spans, additive.span_additive(q, row[:at])(row[at]))
                self.assertEqual(made, by_spans)
        self.assertEqual(additive.moore(3, ((0, 1), (1,))), minus(3, additive.moore(3, ((1,), (0, 1)))))
        self.assertEqual(additive.moore(2, (ONE, (0, 1), (0, 0, 1), (0, 0, 0, 1))), determinant(
            2, (ONE, (0, 1), (0, 0, 1), (0, 0, 0, 1))))

    def test_limits_of_determinants(self):
        for q in FIELDS:
            for many in (5, 8):
                for row in (((),) * many, tuple(monomial(at) for at in range(many)), (monomial(400),) * many):
                    self.refuses(errors.TooMany, 4, additive.moore, q, row)
            self.assertEqual(additive.moore(q, (monomial(400),) * 4), ())
            self.assertEqual(additive.moore(q, (monomial(400), (), monomial(399), ONE)), ())
            self.assertEqual(additive.moore(q, (monomial(400),)), monomial(400))
            # The degree is that of the lesser one and q times that of the greater one.
            high = 2000 // (q + 1)
            if high <= 400:
                low = 2000 - q * high
                row = (monomial(min(low, high - 1)), monomial(high))
                self.assertEqual(len(additive.moore(q, row)) - 1, min(low, high - 1) + q * high)
                if high < 400:
                    self.refuses(errors.TooMany, 2000, additive.moore, q, (monomial(high), monomial(high + 1)))
        self.assertEqual(len(additive.moore(2, (ONE, monomial(200), monomial(400)))), 2001)
        self.refuses(errors.TooMany, 2000, additive.moore, 2, ((0, 1), monomial(200), monomial(400)))
        self.refuses(errors.TooMany, 2000, additive.moore, 2, (monomial(400), monomial(200), (0, 1)))
        # A sum of both has a lower degree.
        row = (ONE, slow_added(2, monomial(400), monomial(200)), monomial(400))
        self.assertEqual(len(additive.moore(2, row)), 2001)

    def test_dependences(self):
        for q in FIELDS:
            for row in self.some_rows(q, 4 if q < 4 else 3):
                told = additive.dependence(q, row)
                right = [one for one, total in sums_of(q, row) if total == () and any(one)]
                if told is None:
                    self.assertEqual(right, [])
                else:
                    self.assertIn(told, right)
                for one, _ in sums_of(q, row):
                    self.assertIs(additive.is_dependence(q, row, one), one in right)
            far = [monomial(400), (1,) * 401, slow_added(q, monomial(400), (1,) * 401)]
            self.assertIs(additive.is_dependence(q, tuple(far), additive.dependence(q, tuple(far))), True)
            self.assertEqual(additive.dependence(q, tuple(monomial(at * 50) for at in range(8))), None)
            row = (ONE, ONE)
            for wrong in no_polynomials(q) + [(1,), (0, 0), (True, q - 1), (1, True), [1, q - 1], (1, q - 1, 0), (1, -1)]:
                self.assertIs(additive.is_dependence(q, row, wrong), False)
            self.assertIs(additive.is_dependence(q, row, (1, minus(q, ONE)[0])), True)
            self.assertIs(additive.is_dependence(q, ((),), (q - 1,)), True)
        # Unlike polynomials that depend.
        self.assertIsNotNone(additive.dependence(3, ((1,), (0, 1), (1, 1))))

    def test_spans(self):
        for q in FIELDS:
            for row in list(self.some_rows(q, 4 if q < 4 else 2))[:14 if q < 5 else 6]:
                span = {total for _, total in sums_of(q, row)}
                made = additive.span_additive(q, row)
                self.assertEqual((q ** (len(made) - 1), made.parts[-1], made.over), (len(span), ONE, q))
                for a in slow_below(q, 3 if q < 5 else 2):
                    self.assertIs(additive.is_spanned(q, row, a), a in span)
                    if len(span) < 9:
                        told = ONE
                        for w in span:
                            told = slow_times(q, told, slow_less(q, a, w))
                        self.assertEqual(made(a), told)
                    self.assertIs(made(a) == (), a in span)
                # A map is 0 at the span exactly if its rest is 0.
                for other in (made, step(q) * made, made + Additive(q, (ONE,)), step(q, len(made))):
                    rest = other.right_divided(made)[1]
                    self.assertIs(rest == Additive(q, ()), all(other(w) == () for w in span))
            for d in range(1, 4):
                if d * q ** d <= 2000:
                    lows = plain.low_coefficients(q, d)
                    self.assertEqual(additive.span_additive(q, tuple(monomial(at) for at in range(d))).parts, lows)
            self.assertEqual(additive.span_additive(q, ((),) * 8).parts, (ONE,))
            self.assertEqual(additive.span_additive(q, (ONE,) * 8).parts, (minus(q, ONE), ONE))

    def test_limits_of_spans(self):
        for q in FIELDS:
            degree = min(2000 // (q - 1), 400)
            made = additive.span_additive(q, (monomial(degree),))
            self.assertEqual(made.parts, (minus(q, monomial(degree * (q - 1))), ONE))
            if degree < 400:
                self.refuses(errors.TooMany, 2000, additive.span_additive, q, (monomial(degree + 1),))
                self.refuses(errors.TooMany, 2000, additive.span_additive, q, (monomial(degree + 1),) * 8)
        self.assertEqual(len(additive.span_additive(2, (ONE, monomial(200), monomial(400))).parts[0]), 2001)
        self.refuses(errors.TooMany, 2000, additive.span_additive, 2, ((0, 1), monomial(200), monomial(400)))
        self.assertEqual(len(additive.span_additive(2, tuple(monomial(at) for at in range(8)))), 9)
        self.refuses(errors.TooMany, 2000, additive.span_additive, 2, tuple(monomial(at) for at in range(2, 10)))

    def test_wrong_values(self):
        for q in FIELDS:
            wrong = [(errors.InvalidField, NO_FIELDS), (errors.InvalidRow, no_rows(q)),
                     (errors.InvalidPolynomial, no_polynomials(q))]
            for call in (additive.moore, additive.dependence, additive.span_additive):
                self.refuses_in_order(call, (q, (ONE,)), wrong[:2])
            self.refuses_in_order(additive.is_dependence, (q, (ONE,), None), wrong[:2])
            self.refuses_in_order(additive.is_spanned, (q, (ONE,), ONE), wrong)

    def test_spans_of_two_rows(self):
        # Of 1 and of T: the composition of both maps is not the map of the span of both.
        one, other = additive.span_additive(2, (ONE,)), additive.span_additive(2, ((0, 1),))
        both = additive.span_additive(2, (ONE, (0, 1)))
        self.assertTrue(both != one * other and both != other * one)


if __name__ == "__main__":
    unittest.main()

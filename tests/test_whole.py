"""What the document promises of the whole program: the points 0.1 to 0.6, 0.10, 0.11 and 0.14 to 0.20."""

import copy
import inspect
import unittest

from monicsums import errors
from monicsums.below import products, reciprocals, stopping
from monicsums.digits import digits
from monicsums.ground import polys, quotients
from monicsums.ground.polys import Poly
from monicsums.house import shelf as house
from monicsums.house.shelf import Shelf
from monicsums.ring import carlitz, rounds
from monicsums.series import bernoulli, symbols
from monicsums.sums import degrees, partings, plain, zeta
from monicsums.tables import additive
from monicsums.tables.additive import Additive
from monicsums.text.shell import Shell
from monicsums.whole import factorials, wholes
from tests.calls import ANY, NAMED, ROWS, WRONG
from tests.support import FIELDS, LONGEST, POWERS, PRIMES, TOO_LONG, Case, Numbers, digits_of, minus, slow_below
from tests.support import slow_less, slow_monics, slow_power, some_primes

ONE = (1,)
T = (0, 1)
ZERO = ((), ONE)
JUDGED = ("is_", "are_", "can_", "does_", "has_")


def parts_of(value):
    """A value and all that is in it."""
    yield value
    if isinstance(value, (tuple, list)):
        for part in value:
            yield from parts_of(part)
    elif isinstance(value, dict):
        for key, part in value.items():
            yield from parts_of(key)
            yield from parts_of(part)


def boxes():
    """Objects of all classes with operators, and equal ones that were made by themselves."""
    return [
        (Poly(3, T), Poly(3, T)), (Additive(3, (T, ONE)), Additive(3, (T, ONE))), (Shelf(3, NAMED), Shelf(3, NAMED)),
        (Shell(Shelf(2)), None), (errors.TooMany(1), None),
    ]


class Values(Case):
    """0.1 to 0.3."""

    def test_integers_have_at_most_sixty_digits(self):
        long = {
            "digits": (3,), "digit_sum": (3,), "shift_sums": (3,), "most_parts": (3,), "is_zero_sum": (3, 2),
            "sum_degree": (3, 2), "does_vanish": (3,), "factorial_degree": (3,), "bottom_degrees": (3,), "first_step": (3,),
            "element_power": (3, 2), "degree_by_steps": (3, 4),
        }
        seen = []
        for _, name, function, _, _, _ in ROWS:
            if name in long:
                function(*long[name], LONGEST)
                self.refuses_number(TOO_LONG, function, *long[name], TOO_LONG)
                self.refuses_number(True, function, *long[name], True)
                seen.append(name)
        self.assertEqual(sorted(seen), sorted(long))
        self.assertEqual(house.is_question(("zero", 1, LONGEST)), True)
        self.assertEqual(house.is_question(("zero", 1, TOO_LONG)), False)

    def test_returned_sequences_are_tuples_and_dicts_ascend(self):
        for _, name, function, _, _, good in ROWS:
            for part in parts_of(function(*good)):
                self.assertNotIsInstance(part, (list, set, float), name)
                if isinstance(part, dict):
                    self.assertEqual(list(part), sorted(part))
        for q in FIELDS:
            told = [partings.sum_by_partings(q, 2, 3 * q * q - 3), products.product_row(q, (3, 1), (2, 2))]
            told += [products.low_product_row(q, (3, 1), (2, 2)), house.edited(q, {"b": T, "a": ONE}, (("move", 1),))]
            told += [Shelf(q, {"b": T, "a": ONE}).polynomials_at()]
            for row in told:
                self.assertEqual(list(row), sorted(row))

    def test_the_order_of_a_passed_dict_has_no_effect(self):
        one, other = dict(NAMED), dict(reversed(NAMED.items()))
        self.assertNotEqual(list(one), list(other))
        for question in (("divides", "a", "b"), ("hang", "b", "a"), ("zero", 1, 1)):
            self.assertEqual(house.decide(3, one, question), house.decide(3, other, question))
        self.assertEqual(list(house.edited(3, one, (("move", 1),))), list(house.edited(3, other, (("move", 1),))))
        self.assertEqual(Shelf(3, one), Shelf(3, other))
        self.assertEqual(list(Shelf(3, other).polynomials_at()), ["a", "b"])

    def test_no_call_changes_its_arguments_and_equal_calls_are_equal(self):
        for _, name, function, _, _, good in ROWS:
            kept = [copy.deepcopy(value) for value in good]
            one = function(*good)
            other = function(*kept)
            for before, after in zip(kept, good):
                self.assertEqual(str(before), str(after))
            if not isinstance(one, Shell):
                self.assertEqual(one, other, name)
                self.assertEqual(repr(one) == repr(other) or "object at" in repr(one), True)

    def test_each_value_is_compared(self):
        for one, other in boxes():
            self.assertTrue(one == one and not one != one)
            if other is not None:
                self.assertTrue(one == other and not one != other)
            for value in ANY:
                if type(value) is not type(one):
                    self.assertIs(one == value, False)
                    self.assertIs(one != value, True)
        shelf = Shelf(3, NAMED)
        for value in ANY:
            self.assertIs(value in shelf, isinstance(value, str) and value == "a")
            self.assertIs(value in Poly(3, T), value in (0, 1) if not isinstance(value, (list, dict)) else False)

    def test_iteration(self):
        for one, _ in boxes():
            if isinstance(one, Poly):
                self.assertEqual(list(one), [0, 1])
            else:
                self.assertRaises(TypeError, iter, one)
                self.assertRaises(TypeError, lambda one=one: [*one])

    def test_operands_of_another_kind(self):
        one, other = Poly(3, T), Additive(3, (T,))
        for value in ANY + [errors.TooMany]:
            for box, signs in ((one, "+-*/%"), (other, "+-*")):
                if type(value) is type(box):
                    continue
                calls = {
                    "+": lambda x, y: x + y, "-": lambda x, y: x - y, "*": lambda x, y: x * y,
                    "/": lambda x, y: x // y, "%": lambda x, y: x % y,
                }
                for sign in signs:
                    self.assertRaises(TypeError, calls[sign], box, value)
                    if not (isinstance(value, str) and sign == "%"):
                        self.assertRaises(TypeError, calls[sign], value, box)

    def test_names_and_order_of_parameters(self):
        for _, name, function, parameters, _, _ in ROWS:
            told = inspect.signature(function).parameters
            self.assertEqual(list(told), parameters, name)
            for one in told.values():
                self.assertEqual(one.kind, inspect.Parameter.POSITIONAL_OR_KEYWORD)
        for box, method, parameters in (
            (Shelf, "edit", ["edits"]), (Shelf, "pin", ["question"]), (Shelf, "polynomials_at", ["edition"]),
            (Shelf, "standing", ["number", "edition"]), (Shelf, "twin", []), (Shell, "say", ["line"]),
            (Shell, "run", ["lines"]), (Additive, "right_divided", ["other"]),
        ):
            self.assertIn(method, vars(box))
            self.assertEqual(list(inspect.signature(getattr(box, method)).parameters)[1:], parameters)


class Arguments(Case):
    """0.4 and 0.5."""

    def test_each_wrong_argument_is_refused_in_order(self):
        for _, name, function, _, kinds, good in ROWS:
            for at, kind in enumerate(kinds):
                if kind == "value":
                    continue
                error, values = WRONG[kind]
                if name == "Shelf" and kind == "named":
                    values = values[1:]
                for value in values:
                    arguments = list(good)
                    arguments[at] = value
                    self.check_refused(error, value, function, arguments)
                    # A later wrong argument changes nothing.
                    for later in range(at + 1, len(kinds)):
                        both = list(arguments)
                        both[later] = WRONG[kinds[later]][1][-1] if kinds[later] in WRONG else None
                        self.check_refused(error, value, function, both)

    def check_refused(self, error, value, function, arguments):
        with self.assertRaises(error) as caught:
            function(*arguments)
        self.assertIs(type(caught.exception), error, (function, arguments))
        if error is errors.InvalidNumber:
            self.assertEqual(repr(caught.exception.given), repr(value))

    def test_judged_values(self):
        seen = []
        for _, name, function, _, kinds, good in ROWS:
            if not name.startswith(JUDGED):
                continue
            self.assertIs(type(function(*good)), bool)
            if "value" in kinds:
                at = kinds.index("value")
                for value in ANY + [good[at]]:
                    arguments = list(good)
                    arguments[at] = value
                    self.assertIs(type(function(*arguments)), bool, (name, value))
                seen.append(name)
        self.assertGreaterEqual(len(seen), 19)

    def test_true_is_not_1(self):
        self.assertIs(polys.is_polynomial(2, (True,)), False)
        self.assertIs(polys.is_monic(2, (0, True)), False)
        self.assertIs(quotients.is_quotient(2, (ONE, (True,))), False)
        self.assertIs(partings.is_parting(3, 1, 7, (6, True)), False)
        self.assertIs(partings.is_parting(3, 1, 7, (6, 1)), True)
        self.assertIs(partings.is_digit_bar(4, 9, 1, True), False)
        self.assertIs(partings.is_digit_bar(4, 9, 1, 1), True)
        self.assertIs(additive.is_dependence(2, (T, T), (True, 1)), False)
        self.assertIs(symbols.is_symbol_steps(3, (), T, (("element", True),)), False)
        self.assertIs(symbols.is_power_root(3, ONE, T, 1, (True,)), False)
        self.assertIs(house.is_question(("zero", True, 1)), False)
        self.assertIs(house.is_edit(2, ("move", True)), False)
        self.assertIs(house.is_paper(4, {}, ("zero", 9, 1), True, True), False)
        self.assertIs(bernoulli.is_irregular(3, (1, 0, 1), True), False)

    def test_what_was_returned_may_be_passed_on(self):
        for q in FIELDS:
            a = Numbers(q).polynomial(q, 300)
            square = polys.times(q, a, a)
            self.assertEqual(len(square), 601)
            self.refuses(errors.InvalidPolynomial, None, polys.times, q, square, ONE)
            self.refuses(errors.InvalidPolynomial, None, Poly, q, square)
            self.assertEqual(len((Poly(q, a) * Poly(q, a)) * Poly(q, a)), 901)
            far = factorials.factorial_degree(q, LONGEST)
            self.assertGreater(far, LONGEST)
            self.refuses_number(far, factorials.factorial_degree, q, far)


class Any(Case):
    """0.6: each result that may be any is taken by the function that judges it, and other correct ones, too."""

    def test_partings_and_bars(self):
        for q in FIELDS:
            for d, k in ((1, 2 * q - 2), (2, q ** 3 - 1), (2, 5), (3, 10 ** 20), (0, 7)):
                part, bar = partings.parting(q, d, k), partings.digit_bar(q, d, k)
                self.assertTrue((part is None) != (bar is None))
                if part is None:
                    self.assertIs(partings.is_digit_bar(q, d, k, bar), True)
                    self.assertIs(house.is_paper(q, {}, ("zero", d, k), True, bar), True)
                else:
                    self.assertIs(partings.is_parting(q, d, k, part), True)
                    self.assertIs(house.is_paper(q, {}, ("zero", d, k), False, part), True)
                if part is not None and k < 1000:
                    for other in partings.all_partings(q, d, k):
                        self.assertIs(partings.is_parting(q, d, k, other), True)

    def test_other_results(self):
        for q in FIELDS:
            numbers = Numbers(20 + q)
            prime = some_primes(q, 2, 1)[0]
            bar = zeta.period_bar(q, T, 2, 1)
            self.assertIs(zeta.is_period_bar(q, T, 2, 1, bar), True)
            row = (T, (1, 1), ONE)
            self.assertIs(additive.is_dependence(q, row, additive.dependence(q, row)), True)
            self.assertIs(rounds.is_maker(q, prime, rounds.maker(q, prime)), True)
            lead = polys.less(q, (0,) * q + ONE, T)
            bad = ((ZERO,) * q) + ((ONE, lead),)
            self.assertIs(wholes.is_bad_place(q, bad, wholes.bad_place(q, bad)), True)
            a, m = numbers.polynomial(q, 9), numbers.monic(q, 7)
            self.assertIs(symbols.is_symbol_steps(q, a, m, symbols.symbol_steps(q, a, m)), True)
            root = symbols.power_root(q, polys.power(q, a, q - 1), prime, q - 1)
            self.assertIs(symbols.is_power_root(q, polys.power(q, a, q - 1), prime, q - 1, root), True)
            g, u, v = polys.common(q, a, m)
            self.assertEqual(polys.added(q, polys.times(q, u, a), polys.times(q, v, m)), g)


class MainPromise(Case):
    """0.10, 0.11, 0.14 and 0.15."""

    def test_sums_that_are_0(self):
        for q in FIELDS:
            for d in range(0, 4):
                for k in range(0, 40 if q ** d <= 30 else 12):
                    if q ** d > 130:
                        continue
                    made = plain.power_sum(q, d, k)
                    p, f = PRIMES[q], POWERS[q]
                    least = min(sum(digits_of(q, p ** j * k)) // (q - 1) for j in range(f))
                    self.assertEqual(least, digits.most_parts(q, k))
                    self.assertIs(made == (), d > least)
                    self.assertIs(partings.is_zero_sum(q, d, k), made == ())
                    self.assertIs(partings.parting(q, d, k) is None, made == ())
                    self.assertIs(partings.digit_bar(q, d, k) is not None, made == ())
                    part = partings.greatest_parting(q, d, k)
                    if part is not None:
                        self.assertEqual(partings.parting_exponent(q, d, k, part), len(made) - 1)
                        number = partings.parting_number(q, d, k, part)
                        self.assertEqual((-1) ** d * number % p, made[-1])
                        self.assertEqual((degrees.sum_degree(q, d, k), degrees.leading(q, d, k)), (len(made) - 1, made[-1]))

    def test_long_numbers(self):
        for q in FIELDS:
            for k in (LONGEST, 10 ** 59, 2 ** 199 - 1, q ** 30 - 1):
                most = digits.most_parts(q, k)
                self.assertEqual([partings.is_zero_sum(q, d, k) for d in (0, most, most + 1)], [False, False, True])
                row = degrees.degree_row(q, k) if most < 12 else ()
                self.assertEqual(list(row), [degrees.sum_degree(q, d, k) for d in range(len(row))])

    def test_degrees_rise_by_less_and_less(self):
        for q in FIELDS:
            for k in list(range(1, 200)) + [q ** 9 - 1, 10 ** 12, 10 ** 12 - 1]:
                steps = degrees.step_row(q, k)
                self.assertTrue(all(one > other for one, other in zip(steps, steps[1:])))
                if k <= 60:
                    total = ()
                    for d, one in enumerate(zeta.zeta_row(q, k)):
                        self.assertEqual(len(one) - 1, degrees.sum_degree(q, d, k))
                        total = polys.added(q, total, one)
                    self.assertIs(total == (), k % (q - 1) == 0)
                    self.assertIs(zeta.does_vanish(q, k), total == ())

    def test_sums_modulo_powers_of_a_prime(self):
        for q in FIELDS:
            for prime, n in ((T, 1), (T, 2), ((1, 1), 1), (some_primes(q, 2, 1)[0], 1)):
                if q ** ((len(prime) - 1) * n) <= 81:
                    turn = zeta.period(q, prime, n)
                    for k in (0, 1, 5, q - 1):
                        told = zeta.zeta_rests(q, prime, n, k)
                        self.assertEqual(told, zeta.zeta_rests(q, prime, n, k + turn))
                        self.assertEqual(told, zeta.zeta_rests(q, prime, n, k + turn * 10 ** 20))

    def test_sums_of_powers_below_0(self):
        for q in FIELDS:
            for d in range(3):
                for k in range(1, 5):
                    total = ZERO
                    for a in slow_monics(q, d):
                        total = quotients.quotient_sum(q, total, (ONE, slow_power(q, a, k)))
                    self.assertEqual(reciprocals.reciprocal_sum(q, d, k), total)
                    self.assertIs(quotients.is_quotient(q, total), True)
            self.assertEqual(products.low_nested(q, 0, (2,)), ZERO)


class Rounds(Case):
    """0.16."""

    def test_one_round_by_c_and_one_by_products(self):
        for q in FIELDS:
            for h in (1, 2, 3):
                if q ** h > 130:
                    continue
                for prime in some_primes(q, h, 2):
                    below = slow_below(q, h)
                    start = rounds.maker(q, prime)
                    self.assertEqual(rounds.module_order(q, prime, start), slow_less(q, prime, ONE))
                    made = {carlitz.carlitz_rest(q, a, start, prime) for a in below}
                    self.assertEqual(len(made), q ** h)
                    orders = []
                    for u in below[1:] if below[0] == () else [one for one in below if one != ()]:
                        power, many = u, 1
                        while power != ONE:
                            power, many = polys.divided(q, polys.times(q, power, u), prime)[1], many + 1
                        orders.append(many)
                    self.assertEqual(max(orders), q ** h - 1)


class Whole(Case):
    """0.17 and 0.18."""

    def test_factorials(self):
        for q in FIELDS:
            for k in range(0, 3 * q + 2):
                if factorials.factorial_degree(q, k) > 2000:
                    continue
                made = factorials.factorial(q, k)
                product, left, i = ONE, k, 0
                while left:
                    for _ in range(left % q):
                        product = polys.times(q, product, plain.all_product(q, i)) if len(product) < 400 else None
                    left, i = left // q, i + 1
                self.assertEqual(made, product)
                for prime in (T, (1, 1), some_primes(q, 2, 1)[0]):
                    many, size, left = 0, q ** (len(prime) - 1), k
                    while left:
                        left //= size
                        many += left
                    self.assertEqual(factorials.factorial_exponent(q, prime, k), many)

    def test_whole_everywhere_or_a_bad_place(self):
        for q in (2, 3, 4):
            numbers = Numbers(30 + q)
            lead = slow_less(q, (0,) * q + ONE, T)
            for _ in range(12):
                row = [quotients.quotient_of(q, numbers.polynomial(q, 2), lead) for _ in range(1 + numbers.below(q + 1))]
                whole = all(one[1] == ONE for one in wholes.coordinates(q, tuple(row)))
                place = wholes.bad_place(q, tuple(row))
                self.assertIs(place is None, whole)
                if place is not None:
                    self.assertNotEqual(wholes.row_value(q, tuple(row), place)[1], ONE)
                else:
                    for a in slow_below(q, 2):
                        self.assertEqual(wholes.row_value(q, tuple(row), a)[1], ONE)

    def test_bernoulli_numbers(self):
        for q in FIELDS:
            for k in range(1, 40):
                made = bernoulli.bernoulli(q, k)
                told = ONE
                for h in bernoulli.bottom_degrees(q, k):
                    for prime in polys.primes_of(q, h):
                        told = polys.times(q, told, prime)
                        element = bernoulli.bottom_element(q, k)
                        made = quotients.quotient_sum(q, made, ((element,), prime))
                self.assertEqual(bernoulli.bernoulli(q, k)[1], told)
                self.assertEqual(made, (bernoulli.whole_part(q, k), ONE))


class Products(Case):
    """0.19."""

    def test_one_rule_for_all_degrees(self):
        for q in FIELDS:
            for one, other in (((1,), (2,)), ((q,), (1,)) if q < 9 else ((3,), (3,)), ((1, 1), (2,)), ((2, 1), (1,))):
                rows = products.product_row(q, one, other)
                for d in range(0, 6 if q == 2 else 3 if q < 5 else 2):
                    both = quotients.quotient_product(q, products.nested_sum(q, d, one), products.nested_sum(q, d, other))
                    total = ZERO
                    for row, element in rows.items():
                        part = quotients.quotient_product(q, ((element,), ONE), products.nested_sum(q, d, row))
                        total = quotients.quotient_sum(q, total, part)
                    self.assertEqual(total, both)

    def test_series_that_stop(self):
        for q in FIELDS:
            for m in range(1, 10):
                end = stopping.stopping_end(q, m)
                if q ** end <= 16:
                    self.assertEqual(len(stopping.stopping_row(q, m)), end + 1)
                if q ** (end + 1) <= 16:
                    self.assertEqual(stopping.stopping_part(q, m, end + 1), ())


class NotTrue(Case):
    """0.20."""

    def test_other_sums_than_those_with_multiples_of_q_less_1(self):
        for q in FIELDS[1:]:
            found = [k for k in range(1, 3 * q) if k % (q - 1) != 0 and plain.power_sum(q, 1, k) != ()]
            self.assertTrue(found)
            self.assertIs(partings.is_zero_sum(q, 1, found[0]), False)

    def test_digit_sums_in_base_q_do_not_tell(self):
        found = {}
        for k in range(1, 200):
            found.setdefault(digits.digit_sum(4, k), set()).add(partings.is_zero_sum(4, 1, k))
        self.assertIn({True, False}, list(found.values()))

    def test_degrees_do_not_rise_with_k(self):
        for q in FIELDS:
            told = [degrees.sum_degree(q, 1, k) for k in range(0, 6 * q)]
            self.assertTrue(any(one > other for one, other in zip(told, told[1:])))

    def test_partings_with_equal_exponents(self):
        found = [partings.parting_exponent(2, 2, 7, part) for part in partings.all_partings(2, 2, 7)]
        self.assertLess(len(set(found)), len(found))

    def test_1_makes_no_round_for_some_primes(self):
        for q, most in ((2, 6), (3, 5)):
            primes = [prime for h in range(1, most) for prime in polys.primes_of(q, h)]
            found = [rounds.is_maker(q, prime, ONE) for prime in primes]
            self.assertTrue(True in found and False in found)

    def test_bottoms_with_primes_of_two_degrees(self):
        self.assertEqual(bernoulli.bottom_degrees(2, 9), (1, 2))
        told = {len(prime) - 1 for prime, _ in polys.factors(2, bernoulli.bernoulli(2, 9)[1])[1]}
        self.assertEqual(told, {1, 2})

    def test_whole_values_by_other_coefficients(self):
        for q in FIELDS:
            lead = slow_less(q, (0,) * q + ONE, T)
            row = (ZERO, quotients.quotient_of(q, minus(q, ONE), lead)) + (ZERO,) * (q - 2) + ((ONE, lead),)
            self.assertIs(wholes.is_whole_row(q, row), True)
            self.assertNotEqual(row[-1][1], ONE)
            for a in slow_below(q, 2):
                self.assertEqual(wholes.row_value(q, row, a)[1], ONE)


if __name__ == "__main__":
    unittest.main()

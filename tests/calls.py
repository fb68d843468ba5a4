"""All functions of the interface, each with its parameters and with good values over three elements.

A parameter is told by its name and, behind a colon, by its kind, if that is not the name itself; `WRONG` has for each
kind the error and values that are refused.
"""

import importlib

from monicsums import errors
from monicsums.ground.polys import Poly
from monicsums.house.shelf import Shelf
from monicsums.tables.additive import Additive
from monicsums.text.shell import Shell
from tests.support import LONGEST, NESTED, NO_COUNTS, NO_FIELDS, TOO_LONG, no_monics, no_polynomials, no_primes
from tests.support import no_quotients

ONE = (1,)
T = (0, 1)
P = (1, 0, 1)
UNIT = (ONE, ONE)
NAMED = {"a": (1, 1), "b": (2, 0, 1)}

# Values of all sorts of 0.4, with objects of this package.
ANY = [
    None, True, False, 0, 1, -1, LONGEST, TOO_LONG, -TOO_LONG, 10 ** 219, 10 ** 220 - 1, "", "a", "zero", "1,1", "none",
    "x" * 20100, " \t\n~", [], [1], [[], {}], {}, {"a": 1}, {1: [2]}, {(1,): ()}, (), (0,), (1,), (True,), (0, 1), ((),),
    ((), (1,)), ((1,), (1,)), ("turn",), (("turn",),), ("zero", 1, 1), ("drop", "a"), ("hang", "a"), NESTED, (NESTED,),
    (1,) * 402, ("a", None, [1, {"b": ()}]), Poly(3, T), Additive(3, (ONE,)), Shelf(3, NAMED), Shell(Shelf(3)),
    errors.InvalidNumber(1), (Poly(2, ONE),), {"a": Shelf(2)}, [Additive(2, ())],
]


def but(*good):
    """The values of ANY but those that are just like good ones."""
    told = [repr(one) for one in good]
    return [value for value in ANY if repr(value) not in told]


def no_numbers(*further):
    return NO_COUNTS + list(further)


WRONG = {
    "q": (errors.InvalidField, NO_FIELDS),
    "a": (errors.InvalidPolynomial, no_polynomials(3)),
    "m": (errors.InvalidPolynomial, no_polynomials(3) + [()]),
    "monic": (errors.InvalidPolynomial, no_monics(3)),
    "prime": (errors.InvalidPolynomial, no_primes(3)),
    "d": (errors.InvalidNumber, no_numbers(301, 10 ** 20, LONGEST)),
    "k": (errors.InvalidNumber, no_numbers()),
    "from1": (errors.InvalidNumber, no_numbers(0)),
    "element": (errors.InvalidNumber, no_numbers(3, 9, LONGEST)),
    "h": (errors.InvalidNumber, no_numbers(0, 61, LONGEST)),
    "base": (errors.InvalidNumber, no_numbers(0, 1, 1001, LONGEST)),
    "p": (errors.InvalidNumber, no_numbers(0, 1, 4, 6, 9, 11, LONGEST)),
    "numbers": (errors.InvalidOperation, but((0,), (1,), (0, 1)) + [(1, -1), (1, TOO_LONG), (1,) * 401]),
    "digits": (errors.InvalidOperation, but((), (0,), (1,), (0, 1)) + [(3,), (0, -1), (1,) * 401]),
    "parting": (errors.InvalidParting, but() + [(2, 3, 0), (3, 2), (0, 5), (5,), (2, 1), (True, 4), (-2, 7)]),
    "k200": (errors.InvalidNumber, no_numbers(201, LONGEST)),
    "n8": (errors.InvalidNumber, no_numbers(0, 9, LONGEST)),
    "row8": (errors.InvalidRow, but(((),), ((), (1,)), ((1,), (1,)), ((1,),)) + [((),) * 9, ((0,),)]),
    "parts": (errors.InvalidRow, but((), ((), (1,)), ((1,), (1,)), ((1,),)) + [((), ()), ((1,),) * 13, (ONE, ())]),
    "upto3": (errors.InvalidNumber, no_numbers(4, LONGEST)),
    "row31": (errors.InvalidRow, but(()) + [(UNIT,) * 32, (UNIT, ((), ONE)), (ONE,), ((ONE, ()),)]),
    "k30": (errors.InvalidNumber, no_numbers(31, LONGEST)),
    "images": (errors.InvalidRow, but() + [(UNIT,) * 7, (ONE,), ((ONE, ()),), (UNIT, None)]),
    "quotient": (errors.InvalidQuotient, no_quotients(3)),
    "e": (errors.InvalidNumber, no_numbers(0, 3, 4, LONGEST)),
    "steps": (errors.InvalidOperation, but()),
    "k100": (errors.InvalidNumber, no_numbers(0, 101, LONGEST)),
    "d100": (errors.InvalidNumber, no_numbers(101, LONGEST)),
    "d6": (errors.InvalidNumber, no_numbers(7, LONGEST)),
    "k12": (errors.InvalidNumber, no_numbers(0, 13, LONGEST)),
    "row3": (errors.InvalidRow, but((1,)) + [(13,), (1, 0), (1,) * 4, (1, True)]),
    "m9": (errors.InvalidNumber, no_numbers(0, 10, LONGEST)),
    "named": (errors.InvalidPolynomial, but({}) + [{"a": (3,)}, {"A": ONE}, {"a": (0,) * 61 + ONE}]),
    "question": (errors.InvalidOperation, but(("zero", 1, 1), ("hang", "a")) + [("hang", "c"), ("zero", 301, 0)]),
    "verdict": (errors.InvalidOperation, but(True, False)),
    "edits": (errors.InvalidOperation, but() + [(("drop", "a"),) * 11, (("drop",),), ("drop", "a")]),
    "shelf": (errors.InvalidOperation, [value for value in ANY if not isinstance(value, Shelf)]),
    "log": (errors.ParseError, but() + ["shelf 3", "shelf 6\n", "\n"]),
    "text": (errors.ParseError, [value for value in ANY if value != "1,1"] + ["x" * 20001, "1 1", "01"]),
    "ratio": (errors.ParseError, but() + ["x" * 20001, "1/1 1", "01/1", "1"]),
    "texts": (errors.ParseError, [value for value in ANY if value not in ("1,1", "")] + ["x" * 20001, "1 01"]),
    "told": (errors.InvalidOperation, [Poly(3, T), "a", True, [], {}, TOO_LONG, (True,), (NESTED,)]),
    "value text": (errors.ParseError, [value for value in ANY if value != "none"] + ["(", "01", "1 ", " 1", "(1  1)"]),
    "row60": (errors.InvalidRow, but((), ((),), ((), (1,)), ((1,), (1,)), ((1,),)) + [((),) * 61, ((0,),)]),
}

# Module, function and parameters; then good values behind q.
TABLE = """
ground.fields is_field value | 3
ground.fields prime_of q |
ground.fields power_of q |
ground.fields is_element q value | 1
ground.fields element_sum q one:element other:element | 1 2
ground.fields element_less q one:element other:element | 1 2
ground.fields element_product q one:element other:element | 1 2
ground.fields element_inverse q element | 2
ground.fields element_power q element k | 2 5
ground.fields element_order q element | 2
ground.fields element_maker q |
ground.fields element_root q element | 2
ground.polys is_polynomial q value | (1,)
ground.polys is_monic q value | (1,)
ground.polys is_prime q value | (0,1)
ground.polys Poly q coefficients:a | (1,1)
ground.polys added q a b:a | (1,1) (0,1)
ground.polys less q a b:a | (1,1) (0,1)
ground.polys times q a b:a | (1,1) (0,1)
ground.polys divided q a b:a | (1,1) (0,1)
ground.polys power q a k | (1,1) 5
ground.polys power_rest q a k m | (1,1) 5 (0,0,1)
ground.polys common q a b:a | (1,1) (0,1)
ground.polys monics q d | 2
ground.polys primes_of q h | 2
ground.polys prime_count q h | 2
ground.polys factors q a | (0,1,1)
ground.polys units_count q m | (0,1,1)
ground.quotients is_quotient q value | ((1,),(1,))
ground.quotients quotient_of q a b:a | (1,1) (0,1)
ground.quotients is_whole_quotient q one:quotient | ((1,),(1,))
ground.quotients quotient_sum q one:quotient other:quotient | ((1,),(1,)) ((1,),(0,1))
ground.quotients quotient_less q one:quotient other:quotient | ((1,),(1,)) ((1,),(0,1))
ground.quotients quotient_product q one:quotient other:quotient | ((1,),(1,)) ((1,),(0,1))
ground.quotients quotient_inverse q one:quotient | ((1,),(0,1))
ground.quotients size_of q one:quotient | ((1,),(0,1))
digits.digits digits b:base k | 3 16
digits.digits of_digits b:base row:digits | 3 (1,2)
digits.digits digit_sum b:base k | 3 16
digits.digits carries b:base i:k j:k | 3 5 6
digits.digits has_no_carries b:base numbers | 3 (1,9)
digits.digits is_digitwise b:base i:k j:k | 3 5 6
digits.digits digitwise b:base k | 3 16
digits.digits choose_rest p n:k k | 3 7 2
digits.digits multinomial_rest p numbers | 3 (1,9)
digits.digits shift_sums q k | 16
digits.digits most_parts q k | 16
sums.plain power_sum q d k | 1 5
sums.plain all_product q d | 2
sums.plain least_multiple q d | 2
sums.plain low_coefficients q d | 2
sums.plain low_value q d a | 1 (1,1)
sums.plain sum_by_series q d k | 1 5
sums.plain sums_below q d k | 1 5
sums.partings parting q d k | 1 5
sums.partings is_parting q d k value | 1 5 (2,3)
sums.partings digit_bar q d k | 3 5
sums.partings is_digit_bar q d k value | 3 5 0
sums.partings is_zero_sum q d k | 1 5
sums.partings greatest_parting q d k | 1 5
sums.partings all_partings q d k | 1 5
sums.partings sum_by_partings q d k | 1 5
sums.partings parting_exponent q d k value:parting | 1 5 (2,3)
sums.partings parting_number q d k value:parting | 1 5 (2,3)
sums.degrees sum_degree q d k | 1 5
sums.degrees leading q d k | 1 5
sums.degrees degree_row q k | 16
sums.degrees leading_row q k | 16
sums.degrees step_row q k | 16
sums.degrees zero_leads q k | 16
sums.degrees is_degree q d k parts:parting | 1 5 (2,3)
sums.zeta zeta_row q k:k200 | 5
sums.zeta zeta_value q k:k200 | 5
sums.zeta does_vanish q k | 5
sums.zeta period q prime n:n8 | (1,0,1) 2
sums.zeta period_bar q prime n:n8 m:k | (1,0,1) 2 5
sums.zeta is_period_bar q prime n:n8 m:k value | (1,0,1) 2 5 (0,1)
sums.zeta zeta_rests q prime n:n8 k | (1,0,1) 2 5
sums.zeta power_sum_rest q prime k | (1,0,1) 5
tables.additive Additive q parts | ((0,1),(1,))
tables.additive moore q row:row8 | ((1,),(0,1))
tables.additive dependence q row:row8 | ((1,1),(2,2))
tables.additive is_dependence q row:row8 value | ((1,1),(2,2)) (1,1)
tables.additive span_additive q row:row8 | ((1,),(0,1))
tables.additive is_spanned q row:row8 a | ((1,),(0,1)) (1,1)
ring.carlitz carlitz q a | (1,1)
ring.carlitz carlitz_coefficient q a i:k | (1,1) 1
ring.carlitz carlitz_value q a u:a | (1,1) (0,1)
ring.carlitz carlitz_rest q a u:a prime | (1,1) (0,1) (1,0,1)
ring.rounds module_order q prime u:a | (1,0,1) (0,1)
ring.rounds is_maker q prime value | (1,0,1) (0,1)
ring.rounds maker q prime | (1,0,1)
ring.rounds orders_count q prime m:monic | (1,0,1) (0,1)
ring.rounds makers_count q prime | (1,0,1)
ring.rounds killed_by q prime a | (1,0,1) (0,1)
ring.rounds module_log q prime start:a u:a | (1,0,1) (0,1) (1,)
ring.rounds not_made q prime start:a | (1,0,1) (0,1)
ring.torsion monic_divisors q m:monic | (0,1,1)
ring.torsion torsion q m:monic | (0,1,1)
ring.torsion torsion_value q m:monic u:a | (0,1,1) (0,1)
ring.torsion torsion_roots q m:monic prime | (0,1,1) (1,0,1)
ring.torsion split_degree q m:monic prime | (0,1,1) (1,0,1)
ring.torsion order_primes q m:monic u:a | (0,1,1) (0,1)
ring.torsion left_over q m:monic u:a | (0,1,1) (0,1)
whole.factorials factorial q k | 9
whole.factorials factorial_degree q k | 9
whole.factorials factorial_exponent q prime k | (1,0,1) 9
whole.factorials choose q k j:upto3 | 3 1
whole.factorials choose_places q k j:upto3 | 3 1
whole.factorials choose_degree q k j:upto3 | 3 1
whole.factorials choose_exponent q prime k j:upto3 | (1,0,1) 3 1
whole.wholes is_row q value | (((1,),(1,)),)
whole.wholes row_value q row:row31 a | (((1,),(0,1)),) (1,1)
whole.wholes base_row q k:k30 | 4
whole.wholes whole_base q k:k30 | 4
whole.wholes coordinates q row:row31 | (((1,),(0,1)),)
whole.wholes of_coordinates q row:row31 | (((1,),(0,1)),)
whole.wholes is_whole_row q row:row31 | (((1,),(0,1)),)
whole.wholes bad_place q row:row31 | (((1,),(0,1)),)
whole.wholes is_bad_place q row:row31 value | (((1,),(0,1)),) ()
whole.wholes linear_coordinates q images | (((1,),(0,1)),)
whole.wholes linear_value q images a | (((1,),(0,1)),) (1,)
series.bernoulli exp_coefficient q i:k | 2
series.bernoulli log_coefficient q i:k | 2
series.bernoulli bernoulli q k | 4
series.bernoulli bottom_degrees q k | 4
series.bernoulli bernoulli_bottom q k | 4
series.bernoulli whole_part q k | 4
series.bernoulli bottom_element q k | 4
series.bernoulli irregular q prime | (1,0,1)
series.bernoulli is_irregular q prime value | (1,0,1) 2
series.symbols symbol q a m:monic | (1,1) (0,1)
series.symbols symbol_by_lots q a prime | (1,1) (1,0,1)
series.symbols symbol_steps q a m:monic | (1,1) (0,1)
series.symbols is_symbol_steps q a m:monic value | (1,1) (0,1) (("rest",(1,)),("turn",))
series.symbols symbol_by_steps q a m:monic steps | (1,1) (0,1) (("rest",(1,)),("turn",))
series.symbols power_root q a prime e | (1,1) (1,0,1) 2
series.symbols is_power_root q a prime e value | (1,1) (1,0,1) 2 (0,1)
below.reciprocals reciprocal_sum q d:k k:k100 | 1 5
below.reciprocals reciprocal_by_series q d:k k:k100 | 1 5
below.reciprocals below_degree q d:k k:k100 | 1 5
below.reciprocals first_step q k:from1 | 5
below.reciprocals degree_by_steps q d:d100 k:from1 | 2 5
below.reciprocals step_row_below q d:k k:k100 | 2 5
below.products nested_sum q d:d6 row:row3 | 2 (1,2)
below.products low_nested q d:d6 row:row3 | 2 (1,2)
below.products product_terms q i:k12 j:k12 | 2 3
below.products product_row q one:row3 other:row3 | (1,2) (2,)
below.products low_product_row q one:row3 other:row3 | (1,2) (2,)
below.stopping inner_sum q m:m9 j:k | 2 1
below.stopping stopping_part q m:m9 n:k | 3 1
below.stopping stopping_end q m:m9 | 3
below.stopping stopping_row q m:m9 | 3
house.shelf is_question value | ("zero",1,1)
house.shelf decide q polynomials:named question | NAMED ("divides","a","b")
house.shelf is_paper q polynomials:named question verdict value | NAMED ("divides","a","b") True (2,1)
house.shelf is_edit q value | ("drop","a")
house.shelf edited q polynomials:named edits | NAMED (("move",1),)
house.shelf Shelf q polynomials:named | NAMED
house.log log_text shelf | Shelf(3,NAMED)
house.log read_log text:log | "shelf\\x203\\n"
text.texts write_polynomial q a | (1,1)
text.texts write_quotient q one:quotient | ((1,),(0,1))
text.texts write_row q row:row60 | ((1,),(0,1))
text.texts read_polynomial q text | "1,1"
text.texts read_quotient q text:ratio | "1/0,1"
text.texts read_row q text:texts | "1,1"
text.texts write_value value:told | (1,(None,))
text.texts read_value text:value_text | "(1)"
text.shell Shell shelf | Shelf(3,NAMED)
"""


def rows():
    """The list of (module, name, function, parameters, kinds, good values), good values with those of q."""
    found = []
    names = {"NAMED": NAMED, "Shelf": Shelf, "T": T, "P": P}
    for line in TABLE.strip().split("\n"):
        head, _, tail = line.partition(" |")
        module, name, *told = head.split()
        parameters = [one.partition(":")[0] for one in told]
        kinds = [(one.partition(":")[2] or one).replace("_", " ") for one in told]
        good = [eval(one, dict(names)) for one in tail.split()]
        if kinds and kinds[0] == "q":
            good = [3] + good
        function = getattr(importlib.import_module(f"monicsums.{module}"), name)
        found.append((module, name, function, parameters, kinds, good))
    return found


ROWS = rows()

"""The package keeps to the rules of its language, as far as tests/language.py sees them."""

import ast
import os
import unittest

from tests import language

# The interface that has landed: for each file its functions and classes.
INTERFACE = {
    "errors": "MonicError InvalidField InvalidPolynomial InvalidQuotient InvalidParting InvalidRow InvalidName"
    " InvalidOperation ParseError InvalidNumber UnknownName NothingToUndo TooMany Refused",
    "ground/fields": "is_field prime_of power_of is_element element_sum element_less element_product"
    " element_inverse element_power element_order element_maker element_root",
    "ground/polys": "is_polynomial is_monic is_prime added less times divided power power_rest common monics"
    " primes_of prime_count factors units_count Poly",
    "ground/quotients": "is_quotient quotient_of is_whole_quotient quotient_sum quotient_less quotient_product"
    " quotient_inverse size_of",
    "digits/digits": "digits of_digits digit_sum carries has_no_carries is_digitwise digitwise choose_rest"
    " multinomial_rest shift_sums most_parts",
    "sums/plain": "power_sum all_product least_multiple low_coefficients low_value sum_by_series sums_below",
    "sums/partings": "parting is_parting digit_bar is_digit_bar is_zero_sum greatest_parting all_partings"
    " sum_by_partings parting_exponent parting_number",
    "sums/degrees": "sum_degree leading degree_row leading_row step_row zero_leads is_degree",
    "sums/zeta": "zeta_row zeta_value does_vanish period period_bar is_period_bar zeta_rests power_sum_rest",
    "tables/additive": "Additive moore dependence is_dependence span_additive is_spanned",
    "ring/carlitz": "carlitz carlitz_coefficient carlitz_value carlitz_rest",
    "ring/rounds": "module_order is_maker maker orders_count makers_count killed_by module_log not_made",
    "ring/torsion": "monic_divisors torsion torsion_value torsion_roots split_degree order_primes left_over",
    "whole/factorials": "factorial factorial_degree factorial_exponent choose choose_places choose_degree"
    " choose_exponent",
    "whole/wholes": "is_row row_value base_row whole_base coordinates of_coordinates is_whole_row bad_place"
    " is_bad_place linear_coordinates linear_value",
    "series/bernoulli": "exp_coefficient log_coefficient bernoulli bottom_degrees bernoulli_bottom whole_part"
    " bottom_element irregular is_irregular",
    "series/symbols": "symbol symbol_by_lots symbol_steps is_symbol_steps symbol_by_steps power_root is_power_root",
    "below/reciprocals": "reciprocal_sum reciprocal_by_series below_degree first_step degree_by_steps step_row_below",
    "below/products": "nested_sum low_nested product_terms product_row low_product_row",
    "below/stopping": "inner_sum stopping_part stopping_end stopping_row",
    "house/shelf": "is_question decide is_paper is_edit edited Shelf",
    "house/log": "log_text read_log",
    "text/texts": "write_polynomial write_quotient write_row read_polynomial read_quotient read_row write_value"
    " read_value",
    "text/shell": "Shell",
}

# The classes that have landed: what stands in the body of each one.
METHODS = {
    "ground/polys": "field coefficients degree __add__ __sub__ __mul__ __floordiv__ __mod__ __pow__ __call__ __bool__"
    " __len__ __iter__ __eq__ __str__",
    "tables/additive": "over parts __add__ __sub__ __neg__ __mul__ __call__ __eq__ __len__ __bool__ __str__"
    " right_divided",
    "house/shelf": "__init__ edit pin polynomials_at standing field editions claims fallen history twin __contains__"
    " __len__ __eq__ __str__",
    "text/shell": "__init__ say run said __str__",
}


class Language(unittest.TestCase):
    def test_no_fault_is_seen(self):
        self.assertEqual(language.faults(), [])

    def test_what_operators_run(self):
        run = [function.name for _, function in language.still_functions(language.trees())]
        for name in ("row_divided", "divided_by_terms", "row_stretched", "product_by_terms", "trimmed"):
            self.assertIn(name, run)
        wrong = "def f(n, xs):\n    made = [0] * n\n    made[0] = 1\n    return made\n"
        function = ast.parse(wrong).body[0]
        self.assertEqual(language.own_values(function), ([], []))
        right = ast.parse(wrong.replace("[0] * n", "[0 for _ in range(n)]")).body[0]
        self.assertEqual(language.own_values(right), (["made"], []))

    def test_the_interface_is_defined_in_its_files(self):
        for name, words in INTERFACE.items():
            tree = ast.parse(language.text_of(os.path.join("monicsums", name + ".py")))
            own = [node.name for node in tree.body if isinstance(node, (ast.FunctionDef, ast.ClassDef))]
            for word in words.split():
                self.assertIn(word, own, name)

    def test_methods_stand_in_their_classes(self):
        for name, words in METHODS.items():
            tree = ast.parse(language.text_of(os.path.join("monicsums", name + ".py")))
            boxes = [node for node in tree.body if isinstance(node, ast.ClassDef)]
            own = [node.name for box in boxes for node in box.body if isinstance(node, ast.FunctionDef)]
            for word in words.split():
                self.assertIn(word, own, name)

    def test_each_folder_is_a_package(self):
        paths = language.files()
        for path in paths:
            self.assertIn(os.path.join(os.path.dirname(path), "__init__.py"), paths)


if __name__ == "__main__":
    unittest.main()

"""monicsums.text.texts: the points 20.1, 20.2 and 20.5."""

import ast
import itertools
import unittest

from monicsums import errors
from monicsums.ground import polys, quotients
from monicsums.text import texts
from tests.support import FIELDS, LONGEST, NESTED, NO_COUNTS, TOO_LONG, Case, Numbers, no_polynomials, no_quotients

ONE = (1,)
T = (0, 1)
NO_TEXTS = [value for value in NO_COUNTS if not isinstance(value, str)] + [
    "x" * 20001, " " * 20001, "0" * 20100, NESTED, ["1"], ("1",), {"1": "1"}, polys.Poly(2, ONE), errors.ParseError("1"),
]
# Pieces that are not like the text of a polynomial.
NO_PIECES = [
    ",", "1,", ",1", "1,,1", "10", "1,10", "00", "01", "-1", "1,-1", "+1", "a", "1a", "a,1", "1.0", "()", "(1)", "1;1",
    "none", "\t", "1\t", "\n", "1\n1", "1,\t1", "/", "1/", "0x1", "1_1", "T", "*", "~", "1,1,", "x" * 200, "9" * 61,
]
# Those that are like one, but tell no polynomial over any field.
NO_ROWS = ["0,0", "1,0", "0,0,0", "0,1,0", "9", "1,9", "9,1", ",".join("1" * 402), ",".join("0" * 401) + ",1"]


class Kind(Case):
    def wrong_at(self, spot, call, *arguments):
        with self.assertRaises(errors.ParseError) as caught:
            call(*arguments)
        self.assertIs(type(caught.exception), errors.ParseError)
        self.assertEqual(repr(caught.exception.spot), repr(spot), arguments)


class Pieces(Kind):
    def test_examples(self):
        made = [
            texts.write_polynomial(3, (2, 0, 1)), texts.write_quotient(2, ((), (1,))), texts.write_row(2, ((1, 1), ())),
            texts.read_polynomial(4, " 3,1 "), texts.write_value((1, (None, -3))),
        ]
        self.assertEqual(made, ["2,0,1", "0/1", "1,1 0", (3, 1), "(1 (none -3))"])
        self.assertEqual(texts.MAX_TEXT, 20000)

    def test_there_and_back(self):
        for q in FIELDS:
            numbers = Numbers(q)
            for degree in (-1, 0, 1, 2, 17, 400):
                a, b = numbers.polynomial(q, degree), numbers.monic(q, max(degree, 0))
                text = texts.write_polynomial(q, a)
                self.assertEqual(text, ",".join(str(x) for x in a) if a else "0")
                self.assertEqual(texts.read_polynomial(q, text), a)
                self.assertEqual(texts.read_polynomial(q, f"   {text} "), a)
                one = quotients.quotient_of(q, a, b)
                text = texts.write_quotient(q, one)
                self.assertEqual(text, "/".join(texts.write_polynomial(q, part) for part in one))
                self.assertEqual(texts.read_quotient(q, text), one)
                self.assertEqual(texts.read_quotient(q, f" {text}    "), one)
            for many in (0, 1, 2, 24, 60):
                row = tuple(numbers.polynomial(q, numbers.below(150) - 1) for _ in range(many))
                text = texts.write_row(q, row)
                self.assertEqual(text, " ".join(texts.write_polynomial(q, a) for a in row))
                self.assertEqual(texts.read_row(q, text), row)
                self.assertEqual(texts.read_row(q, "  " + text.replace(" ", "   ") + " "), row)
        self.assertEqual((texts.write_row(2, ()), texts.read_row(2, ""), texts.read_row(2, "   ")), ("", (), ()))

    def test_long_rows(self):
        for q in FIELDS:
            row = ((q - 1,) * 401,) * 24
            text = texts.write_row(q, row)
            self.assertEqual((len(text), texts.read_row(q, text)), (24 * 802 - 1, row))
            longer = text + " " * (20000 - len(text))
            self.assertEqual((len(longer), texts.read_row(q, longer)), (20000, row))
            self.wrong_at(None, texts.read_row, q, longer + " ")
            # What is written may be too long to be read.
            row = ((1,) * 401,) * 60
            self.assertEqual(len(texts.write_row(q, row)), 60 * 802 - 1)
            self.wrong_at(None, texts.read_row, q, texts.write_row(q, row))
            many = ("1 " * 60).strip()
            self.assertEqual(texts.read_row(q, many), (ONE,) * 60)
            self.refuses(errors.InvalidRow, None, texts.read_row, q, many + " 1")
            self.refuses(errors.InvalidRow, None, texts.write_row, q, (ONE,) * 61)
            self.wrong_at(len(many) + 3, texts.read_row, q, many + " 1 x")
            self.assertEqual(texts.read_polynomial(q, " " * 19999 + "1"), ONE)
            self.wrong_at(None, texts.read_polynomial, q, " " * 20000 + "1")
            self.wrong_at(20000, texts.read_polynomial, q, " " * 20000)
            self.wrong_at(20000, texts.read_quotient, q, " " * 20000)

    def test_wrong_pieces(self):
        for q in FIELDS:
            for piece in NO_PIECES:
                for ahead in ("", "  "):
                    for tail in ("", " ", " 1", " x"):
                        text = ahead + piece + tail
                        self.wrong_at(len(ahead), texts.read_polynomial, q, text)
                        self.wrong_at(len(ahead), texts.read_row, q, text)
                        self.wrong_at(len(ahead), texts.read_quotient, q, text)
                        self.wrong_at(len(ahead) + 4, texts.read_row, q, ahead + "1 0 " + text.strip(" "))
                if "/" not in piece:
                    self.wrong_at(1, texts.read_quotient, q, f" {piece}/1")
                    self.wrong_at(1, texts.read_quotient, q, f" 1/{piece} 1")
            for text in ("", " ", "     "):
                self.wrong_at(len(text), texts.read_polynomial, q, text)
                self.wrong_at(len(text), texts.read_quotient, q, text)
            # A second piece is wrong, also where the first one is no polynomial.
            for piece in ["1", "0", "0,1"] + NO_ROWS:
                for other in ("1", "x", "0", "1/1"):
                    self.wrong_at(len(piece) + 4, texts.read_polynomial, q, f" {piece}   {other} 1")
                    self.wrong_at(len(piece) + 6, texts.read_quotient, q, f" {piece}/1   {other} 1")
                    self.wrong_at(len(piece) + 1, texts.read_polynomial, q, f"{piece} {other}")
                    self.wrong_at(len(piece) + 3, texts.read_quotient, q, f"{piece}/1 {other}")
            for piece in ("1", "0", "1,1", "1/1/1", "0/1/", "/1", "1//1", "0/1/1"):
                self.wrong_at(2, texts.read_quotient, q, f"  {piece} ")
            for piece in ("1/1", "0/1"):
                self.wrong_at(2, texts.read_polynomial, q, f"  {piece} ")
                self.wrong_at(4, texts.read_row, q, f"1 0 {piece} ")

    def test_no_polynomials(self):
        for q in FIELDS:
            for piece in NO_ROWS + [str(q)] * (q < 9) + [f"{min(q, 9)},1"]:
                self.refuses(errors.InvalidPolynomial, None, texts.read_polynomial, q, f" {piece}")
                self.refuses(errors.InvalidRow, None, texts.read_row, q, f" {piece}  1")
                self.refuses(errors.InvalidRow, None, texts.read_row, q, f"1   {piece}")
                self.refuses(errors.InvalidQuotient, None, texts.read_quotient, q, f"{piece}/1")
                self.refuses(errors.InvalidQuotient, None, texts.read_quotient, q, f"1/{piece}")
                # A wrong piece comes first, wherever it stands.
                self.wrong_at(len(piece) + 1, texts.read_row, q, f"{piece} x")
            for text in ("1/0", "0/0", "0/0,1", "0,1/0,1", "0,1/0,0,1", "1,1/1,1", "0,1/0,1,1"):
                self.refuses(errors.InvalidQuotient, None, texts.read_quotient, q, text)
            self.assertEqual(texts.read_quotient(q, "0/1"), ((), ONE))
            for element in range(2, q):
                self.refuses(errors.InvalidQuotient, None, texts.read_quotient, q, f"1/{element}")

    def test_wrong_values(self):
        calls = (texts.read_polynomial, texts.read_quotient, texts.read_row)
        for call in calls:
            self.refuses_fields(call, "1")
            for value in NO_TEXTS:
                self.wrong_at(None, call, 3, value)
        self.refuses_fields(texts.write_polynomial, ONE)
        self.refuses_fields(texts.write_quotient, (ONE, ONE))
        self.refuses_fields(texts.write_row, (ONE,))
        for q in FIELDS:
            for value in no_polynomials(q):
                self.refuses(errors.InvalidPolynomial, None, texts.write_polynomial, q, value)
                self.refuses(errors.InvalidRow, None, texts.write_row, q, (value,))
                self.refuses(errors.InvalidRow, None, texts.write_row, q, (ONE, value, T))
            for value in no_quotients(q):
                self.refuses(errors.InvalidQuotient, None, texts.write_quotient, q, value)
            for value in [None, "", "1", [ONE], ONE, T, 1, True, {}, {ONE: ONE}, NESTED, (ONE,) * 61, ((ONE,),)]:
                self.refuses(errors.InvalidRow, None, texts.write_row, q, value)


def told_text(value):
    if value is None:
        return "none"
    if isinstance(value, tuple):
        return "(" + " ".join(told_text(part) for part in value) + ")"
    return str(value)


def tuples(value):
    return tuple(tuples(part) for part in value) if isinstance(value, list) else value


def is_told_text(text):
    """Whether a text is that of a told value, judged by Python's own reading of lists."""
    try:
        plain = text.replace("(", "[").replace(")", "]").replace("none", "None").replace(" ", ", ")
        return told_text(tuples(ast.literal_eval(plain))) == text
    except (SyntaxError, ValueError, TypeError):
        return False


def can_go_on(known, text):
    """Whether the text of some told value begins so."""
    if text not in known:
        level = text.count("(") - text.count(")")
        tails = ("", "7", "none", "one", "ne", "e")
        known[text] = any(is_told_text(text + tail + ")" * level) for tail in tails)
    return known[text]


def deep(many, inner):
    for _ in range(many):
        inner = (inner,)
    return inner


VALUES = [
    None, 0, 1, -1, 10, -10, 305, LONGEST, -LONGEST, (), (None,), (0, 0), ((), ()), (1, (None, -3)), (((0, 1), 1),),
    deep(8, None), deep(7, ()), (deep(7, -5), 0, deep(6, (1, 2, 3))), (LONGEST,) * 300, ((),) * 5000,
]


class Values(Kind):
    def test_there_and_back(self):
        for value in VALUES:
            text = texts.write_value(value)
            self.assertEqual(text, told_text(value))
            self.assertEqual(repr(texts.read_value(text)), repr(value))
        for q in FIELDS:
            told = polys.factors(q, Numbers(q).polynomial(q, 20))
            self.assertEqual(texts.read_value(texts.write_value(told)), told)

    def test_no_values(self):
        wrong = [value for value in NO_COUNTS if value is not None and not isinstance(value, (int, tuple))]
        wrong += [True, False, TOO_LONG, -TOO_LONG, deep(9, None), deep(8, ()), (True,), (None, False), ("none",), [1]]
        wrong += [([],), (1, {}), deep(8, TOO_LONG), deep(8, True), (1, deep(8, 1)), "none", polys.Poly(2, ONE), (NESTED,)]
        for value in wrong:
            self.refuses(errors.InvalidOperation, None, texts.write_value, value)

    def test_where_no_text_goes_on(self):
        cases = {
            "": 0, " ": 0, "x": 0, "-": 1, "--1": 1, "-0": 1, "-01": 1, "00": 1, "01": 1, "0 ": 1, "1 ": 1, "1 2": 1,
            "1)": 1, "1(": 1, "1a": 1, "1-": 1, "n": 1, "no": 2, "non": 3, "nope": 2, "None": 0, "nonen": 4, "none ": 4,
            "(": 1, "(1": 2, "(1 ": 3, "(1 )": 3, "( 1)": 1, "(1  2)": 3, "()(": 2, "())": 2, "() ": 2, "(()())": 3,
            "(1,2)": 2, "(1, 2)": 2, "(none none": 10, "(nonenone)": 5, "(01)": 2, "(-)": 2, "(- 1)": 2, ")": 0, "+1": 0,
            "(1\t2)": 2, "\n": 0, "1\n": 1, "(" * 8: 8, "(" * 9: 8, "(" * 100: 8, "(" * 8 + ")" * 7: 15, "()" * 3: 2,
            "(" * 8 + ")" * 9: 16, "((((((((1 ((1": 10, "((((((((1) (1) ((1": 16, "9" * 61: 60, "-" + "9" * 61: 61,
            "1" + "0" * 60: 60, "(9 " + "9" * 61: 63, "9" * 20000: 60, "(" + "1 " * 9999: 19999, "'1'": 0, "1.0": 1,
            "(1 2": 4, "1_0": 1, "1e3": 1, "True": 0, "~": 0,
        }
        for text, spot in cases.items():
            self.wrong_at(spot, texts.read_value, text)

    def test_beside_all_short_texts(self):
        known = {}
        for many in range(6):
            for signs in itertools.product("(n07- )", repeat=many):
                text = "".join(signs)
                if is_told_text(text):
                    self.assertEqual(told_text(texts.read_value(text)), text)
                    continue
                spot = 0
                while spot < many and can_go_on(known, text[:spot + 1]):
                    spot += 1
                self.wrong_at(spot, texts.read_value, text)

    def test_lengths(self):
        text = "(" + "1 " * 9998 + "11)"
        self.assertEqual((len(text), len(texts.read_value(text))), (20000, 9999))
        self.wrong_at(None, texts.read_value, "(" + "1 " * 9998 + "111)")
        for value in NO_TEXTS:
            self.wrong_at(None, texts.read_value, value)


if __name__ == "__main__":
    unittest.main()

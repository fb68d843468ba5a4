"""monicsums.house.log: the points 19.4 and 19.5."""

import unittest

from monicsums import errors
from monicsums.ground import polys
from monicsums.house.log import log_text, read_log
from monicsums.house.shelf import Shelf
from tests.shelves import some_shelf
from tests.support import FIELDS, LONGEST, NESTED, NO_COUNTS, TOO_LONG, Case, Numbers

ONE = (1,)
T = (0, 1)
FIRST = "shelf 3 / a 1,1 / b 2,0,1\n"
TOLD = FIRST + (
    "pin divides a b\npin zero 2 8\nedit put c 1,2\nedit move 2 / drop a / add b c / times c c\npin hang b c\n"
    "edit put a 0 / put d 2 / move 0\n"
)


def told_shelf():
    """The shelf of TOLD, call by call."""
    shelf = Shelf(3, {"b": (2, 0, 1), "a": (1, 1)})
    shelf.pin(("divides", "a", "b"))
    shelf.pin(("zero", 2, 8))
    shelf.edit((("put", "c", (1, 2)),))
    shelf.edit((("move", 2), ("drop", "a"), ("add", "b", "c"), ("times", "c", "c")))
    shelf.pin(("hang", "b", "c"))
    shelf.edit((("put", "a", ()), ("put", "d", (2,)), ("move", 0)))
    return shelf


def polynomial_text(a):
    return ",".join(str(x) for x in a) or "0"


def slow_log(shelf):
    """The log, by what a shelf tells of itself."""
    lines = [f"shelf {shelf.field}"]
    for name, a in shelf.polynomials_at(1).items():
        lines[0] += f" / {name} {polynomial_text(a)}"
    for word, told in shelf.history:
        if word == "pin":
            lines.append("pin " + " ".join(map(str, told)))
        else:
            parts = [" ".join(polynomial_text(x) if isinstance(x, tuple) else str(x) for x in edit) for edit in told]
            lines.append("edit " + " / ".join(parts))
    return "".join(line + "\n" for line in lines)


class Logs(Case):
    def wrong_line(self, spot, text):
        with self.assertRaises(errors.ParseError) as caught:
            read_log(text)
        self.assertIs(type(caught.exception), errors.ParseError)
        self.assertEqual((repr(caught.exception.spot)), repr(spot), text)

    def test_text(self):
        self.assertEqual(log_text(told_shelf()), TOLD)
        self.assertEqual(log_text(Shelf(9)), "shelf 9\n")
        self.assertEqual(log_text(Shelf(2, {"z": (), "y1": ONE})), "shelf 2 / y1 1 / z 0\n")

    def test_there_and_back(self):
        for q in FIELDS:
            numbers = Numbers(q)
            for many in (0, 1, 10, 60):
                shelf = some_shelf(q, numbers, many)
                text = log_text(shelf)
                self.assertEqual(text, slow_log(shelf))
                made, length = read_log(text)
                self.assertTrue(made == shelf and made.history == shelf.history and length == len(text))
                self.assertEqual(log_text(made), text)
                for number in range(1, len(shelf.claims) + 1):
                    self.assertEqual(made.standing(number), shelf.standing(number))

    def test_each_beginning(self):
        for q in FIELDS:
            shelf = some_shelf(q, Numbers(10 + q), 30)
            text = log_text(shelf)
            # The same calls, one after the other.
            states = [Shelf(q, shelf.polynomials_at(1))]
            for word, told in shelf.history:
                further = states[-1].twin()
                getattr(further, word)(told)
                states.append(further)
            self.assertEqual(states[-1], shelf)
            first = text.index("\n") + 1
            for end in list(range(first, len(text) + 1, 7)) + [len(text) - 1, len(text)]:
                made, length = read_log(text[:end])
                many = text[:end].count("\n")
                self.assertEqual(length, text[:end].rindex("\n") + 1)
                self.assertEqual(made, states[many - 1])
                self.assertEqual(made.history, shelf.history[:many - 1])
            for end in (0, 1, first - 1):
                self.wrong_line(0, text[:end])

    def test_what_stands_behind_the_last_newline(self):
        for tail in ("p", "nonsense", "edit put a 1 / ", " ", "pin zero 2 8", "\t", "x" * 20000):
            made, length = read_log(TOLD + tail)
            self.assertTrue(made == told_shelf() and length == len(TOLD))

    def test_limits(self):
        shelf = Shelf(7, {f"a{at}": (6,) * 61 for at in range(20)})
        for _ in range(39):
            shelf.edit((("move", 1),) * 10)
        for at in range(20):
            shelf.pin(("zero", 300, LONGEST - at))
        text = log_text(shelf)
        made, length = read_log(text)
        self.assertTrue(made == shelf and length == len(text) and text.count("\n") == 60)
        self.wrong_line(60, text + "edit move 1\n")
        self.wrong_line(60, text + "pin zero 1 1\n")

    def test_wrong_first_lines(self):
        wrong = [
            "", " ", "shelf", "shelf ", "shelf  3", " shelf 3", "shelf 3 ", "Shelf 3", "shelf 6", "shelf 03", "shelf -3",
            "shelf +3", "shelf 3 /", "shelf 3 / ", "shelf 3 / a", "shelf 3 / a ", "shelf 3 / a 3", "shelf 3 / a 1,0",
            "shelf 3 / a 0,0", "shelf 3 / a 1 / a 1", "shelf 3 / a 1 / a 2", "shelf 3 / b 1 / a 1", "shelf 3/ a 1",
            "shelf 3 /a 1", "shelf 3  / a 1", "shelf 3 / a  1", "shelf 3 / a 1, 1", "shelf 3 / a 1,,1", "shelf 3 / a ,1",
            "shelf 3 / a 01", "shelf 3 / a 1 / ", "shelf 3 / A 1", "shelf 3 / ninechars 1", "shelf 3 / a ()", "edit drop a",
            "shelf 3 / a 1 b 2", "shelf 3 a 1", "shelf\t3", "shelf 3\t", "shelf 3 / a 1\t", "shelf " + "9" * 61, "shelf x",
            "shelf 3 / a " + "0," * 61 + "1", "shelf " + "9" * 19000, "shelf 3 " + "/ " * 9000, "shelf 3 / a -1", "3",
            "shelf 3" + "".join(f" / a{at} 1" for at in range(10, 31)), "pin zero 1 1", "shelf 3 / / a 1", "shelf None",
            "shelf 3 4", "shelf True", "shelf 3.0",
        ]
        for line in wrong:
            self.wrong_line(0, line + "\n")
            self.wrong_line(0, line + "\npin nonsense\n")
        self.assertEqual(read_log("shelf 3" + "".join(f" / a{at} 1" for at in range(10, 30)) + "\n")[0].field, 3)

    def test_wrong_lines(self):
        wrong = [
            "", " ", "edit", "edit ", "pin", "pin ", "other", "edit put", "edit put a", "edit put a 3", "edit put a 1,0",
            "edit put a 0,0", "edit put a 1 1", "edit put a 1 ", "edit put  a 1", " edit put a 1", "Edit put a 1",
            "edit drop", "edit drop q", "edit drop a b", "edit drop a ", "edit drop a /", "edit drop a / ", "edit  drop a",
            "edit drop a / drop a", "edit drop a /drop b", "edit drop a/ drop b", "edit / drop a", "edit add a",
            "edit add a q", "edit times b", "edit move", "edit move 3", "edit move 01", "edit move -1", "edit move x",
            "edit move 1 1", "edit move", "edit put a " + "0," * 61 + "1", "edit put A 1", "edit pin a", "pin zero",
            "pin zero 1", "pin zero 1 1 1", "pin zero 301 1", "pin zero 01 1", "pin zero 1 01", "pin zero 1 -1",
            "pin zero 1 +1", "pin zero 1 " + "9" * 61, "pin zero 1 " + "9" * 19000, "pin zero x 1", "pin divides a",
            "pin divides a q", "pin divides a b b", "pin divides q a", "pin hang", "pin hang q", "pin hang a b a b a",
            "pin hang a ", "pin  hang a", "pin hang  a", "pin drop a", "pin 3", "shelf 3", "pin zero 1 1\t", "pinzero 1 1",
            "edit " + " / ".join(["move 0"] * 11), "edit times b b / times b b / times b b / times b b / times b b",
            "other hang a", "Pin hang a", "hang a", "hang hang a",
            " hang a", "put put a 1", "pin zero 1 1.0", "pin zero 1 1_0", "edit move 1_0", "edit put a 1_0", "pin zero True 1",
        ]
        for line in wrong:
            self.wrong_line(1, FIRST + line + "\n")
            self.wrong_line(1, FIRST + line + "\n" + line + "\n")
            self.wrong_line(7, TOLD + line + "\npin zero 1 1\n")
        for line in ("edit " + " / ".join(["move 0"] * 10), "pin zero 300 " + "9" * 60, "pin zero 0 0", "edit move 0"):
            made, length = read_log(FIRST + line + "\n")
            self.assertEqual((made.editions + len(made.claims), length), (2, len(FIRST + line) + 1))
        # A divisor 0 is no question.
        self.wrong_line(1, "shelf 2 / a 0 / b 1\npin divides a b\n")
        self.assertEqual(read_log("shelf 2 / a 0 / b 1\npin divides b a\n")[0].claims, ((("divides", "b", "a"), True, 1),))

    def test_wrong_values(self):
        for value in NO_COUNTS + [NESTED, {"a": ONE}, "shelf 3\n", Shelf, polys.Poly(2, T), TOO_LONG]:
            self.refuses(errors.InvalidOperation, None, log_text, value)
            if not isinstance(value, str):
                self.wrong_line(None, value)
        for text in ("", "x" * 20100, "a b\t", "3"):
            self.wrong_line(0, text)
        for text in ("\n", "a b\t\n", "\n" * 20000, "x\n" * 1000):
            self.wrong_line(0, text)


if __name__ == "__main__":
    unittest.main()

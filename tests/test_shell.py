"""monicsums.text.shell: the points 20.3 to 20.5."""

import unittest

from monicsums import errors
from monicsums.ground import polys
from monicsums.house import shelf as house
from monicsums.house.log import log_text
from monicsums.house.shelf import Shelf
from monicsums.sums import degrees
from monicsums.text import shell as shells
from monicsums.text import texts
from monicsums.text.shell import Shell
from tests.shelves import some_edit, some_question, some_shelf, tried
from tests.support import FIELDS, LONGEST, NESTED, NO_COUNTS, TOO_LONG, Case, Numbers

ONE = (1,)
T = (0, 1)


def edit_line(edit):
    """The line for an edit."""
    if edit[0] == "put":
        return f"put {edit[1]} = {','.join(map(str, edit[2])) or '0'}"
    return " ".join(map(str, edit))


def told_answer(done, word):
    """What is answered where a call gives this result or error."""
    if isinstance(done, errors.Refused):
        return f"refused {done.reason[-1]}"
    if isinstance(done, errors.TooMany):
        return f"too many {done.limit}"
    if isinstance(done, Exception):
        return "invalid"
    return f"{word} {done}".strip()


class Lines(Case):
    def answers(self, shelf, cases):
        """Compare the answers to lines; those that end in an error leave the shelf as it was."""
        shell = Shell(shelf)
        for line, answer in cases:
            before = log_text(shelf)
            self.assertEqual(shell.say(line), answer, line)
            if answer.split(" ")[0] in ("wrong", "refused", "too", "invalid"):
                self.assertEqual(log_text(shelf), before)
        self.assertEqual(shell.said, len(cases))
        return shell

    def test_each_line(self):
        shelf = Shelf(3, {"a": (1, 1), "b": (2, 0, 1)})
        shell = self.answers(shelf, [
            ("", ""), ("     ", ""), ("names", "a b"), ("show a", "1,1"), ("show b", "2,0,1"), ("put c = 0,1,2", "edition 2"),
            ("put c = 0", "edition 3"), ("  show    c ", "0"), ("put b1 = 2", "edition 4"), ("names", "a b b1 c"),
            ("drop c", "edition 5"), ("add b1 a", "edition 6"), ("show b1", "0,1"), ("times b1 b1", "edition 7"),
            ("show b1", "0,0,1"), ("move 2", "edition 8"), ("show b1", "1,1,1"), ("show a", "0,1"), ("move 1", "edition 9"),
            ("factor b1", "(1 (((0 1) 2)))"), ("factor b", "(1 (((1 1) 1) ((2 1) 1)))"), ("degree 1 18", "0"),
            ("degree 3 16", "-1"), ("degree 0 0", "0"), ("degree 2 16", "12"), ("ask zero 2 8", "no (2 6 0)"),
            ("ask zero 3 8", "yes 0"), ("ask divides a b", "yes (2 1)"), ("ask divides b a", "no (() (1 1))"),
            ("ask hang a b", "no ((1 0) (0 1))"), ("ask hang a a", "yes (2 1)"), ("ask hang b1", "no ((1))"),
            ("pin divides a b", "claim 1"), ("pin zero 2 8", "claim 2"), ("pin hang a b b1 a", "claim 3"), ("stand 1", "stands"),
            ("put a = 1,0,1", "edition 10"), ("stand 1", "fallen"), ("put a = 2,1", "edition 11"), ("stand 1", "another"),
            ("stand 2", "stands"), ("stand 3", "stands"),
        ])
        self.assertEqual(str(shell), "shell, 42 lines said")
        self.assertEqual((shelf.editions, len(shelf.claims), shelf.fallen), (11, 3, ()))
        self.assertEqual(str(Shell(Shelf(2))), "shell, 0 lines said")
        self.assertEqual(shells.MAX_LINE, 2000)

    def test_wrong_pieces(self):
        long = "x" * 9
        cases = [
            ("x", 0), ("   x", 3), ("Names", 0), ("names a", 6), ("names  ,", 7), ("put", 3), ("put  ", 5), ("put a", 5),
            ("put a ", 6), ("put a b", 6), ("put a 1", 6), ("put a =", 7), ("put a =  ", 9), ("put a = x", 8),
            ("put a = 10", 8), ("put a = 1,", 8), ("put a = 1 1", 10), ("put a = -1", 8), ("put a = 1 x", 10),
            ("put A = 1", 4), (f"put {long} = x", 4), ("put 1 = x", 4), ("put = = 1", 4), ("put a == 1", 6), ("put a=1", 4),
            ("put a =1", 6), ("drop", 4), ("drop A", 5), ("drop a b", 7), ("add a", 5), ("add", 3), ("add a 1", 6),
            ("add 1 1", 4), ("add a b c", 8), ("times a", 7), ("times a +", 8), ("move", 4), ("move x", 5), ("move 1 1", 7),
            ("move 01", 5), ("move +1", 5), ("move -0", 5), ("move --1", 5), ("move 1.0", 5), ("move -", 5), ("move 00", 5),
            ("ask", 3), ("ask  ", 5), ("ask x", 4), ("ask a", 4), ("ask zero", 8), ("ask zero 1", 10), ("ask zero a 1", 9),
            ("ask zero 1 a", 11), ("ask zero 1 1 1", 13), ("ask divides", 11), ("ask divides a", 13), ("ask divides a 1", 14),
            ("ask divides a b c", 16), ("ask hang", 8), ("ask hang 1", 9), ("ask hang a b c d e", 17), ("ask hang a b 1", 13),
            ("pin", 3), ("pin x", 4), ("pin zero", 8), ("pin zero 1", 10), ("pin hang", 8), ("pin hang a b c d x", 17),
            ("pin divides a", 13), ("stand", 5), ("stand a", 6), ("stand 1 1", 8), ("stand 01", 6), ("show", 4),
            ("show 1", 5), ("show a a", 7), ("factor", 6), ("factor a b", 9), ("factor 1", 7), ("degree", 6),
            ("degree 1", 8), ("degree 1 x", 9), ("degree x 1", 7), ("degree 1 1 1", 11), ("edit a", 0), ("hang a", 0),
            ("~", 0), ("put a = 1,,1", 8), (" " * 1999 + "x", 1999), ("ask zero -", 9), ("= a", 0), ("ask names", 4),
            # The first wrong piece counts, and a name that is not there is none.
            ("put q r s", 6), ("times q 1", 8), ("show q 1", 7), ("ask divides q", 13), ("ask hang q q q q q", 17),
        ]
        shelf = Shelf(3, {"a": ONE, "b": T})
        self.answers(shelf, [(line, f"wrong at {spot}") for line, spot in cases])
        self.assertEqual(shelf, Shelf(3, {"a": ONE, "b": T}))

    def test_refused(self):
        shelf = Shelf(3, {f"a{at}": (0,) * 31 + ONE for at in range(19)})
        self.answers(shelf, [
            ("drop q", "refused unknown"), ("add q a0", "refused unknown"), ("add a0 q", "refused unknown"),
            ("times q q", "refused unknown"), ("times a0 a1", "refused great"), ("put a0 = " + "0," * 61 + "1", "refused great"),
            ("put b = " + "0," * 60 + "1", "edition 2"), ("put c = 1", "refused many"),
            ("put c = " + "0," * 61 + "1", "refused many"), ("put a0 = " + "0," * 400 + "1", "refused great"),
            ("put a0 = 0", "edition 3"), ("factor a0", "refused zero"), ("factor a1", "too many 20"),
            ("times a0 b", "edition 4"), ("show a0", "0"), ("put a0 = " + "0," * 20 + "1", "edition 5"),
            ("factor a0", "(1 (((0 1) 20)))"), ("put a0 = " + "0," * 21 + "1", "edition 6"), ("factor a0", "too many 20"),
        ])

    def test_too_many(self):
        shelf = Shelf(2, {"a": ONE})
        cases = [("move 1", f"edition {at}") for at in range(2, 41)] + [("move 1", "too many 40"), ("drop q", "refused unknown")]
        cases += [("move 2", "invalid")] + [(f"pin zero {at} 3", f"claim {at}") for at in range(1, 21)]
        cases += [("pin zero 1 1", "too many 20"), ("pin hang q", "invalid"), ("stand 20", "stands"), ("stand 21", "invalid")]
        self.answers(shelf, cases)

    def test_invalid(self):
        shelf = Shelf(3, {"a": ONE, "b": T, "o": ()})
        cases = [
            "show q", "factor q", "ask divides a q", "ask divides q a", "ask divides o a", "ask hang q", "ask hang a b q",
            "pin divides q a", "pin divides o b", "pin hang q", "stand 1", "stand 0", "stand -1", "stand " + "9" * 61,
            "move 3", "move -1", "move " + "9" * 61, "move " + "9" * 1900, "degree 301 1", "degree -1 1", "degree 1 -1",
            "degree 1 " + "9" * 61, "degree " + "9" * 61 + " 1", "ask zero 301 1", "ask zero -1 1", "ask zero 1 -1",
            "ask zero 1 " + "9" * 61, "pin zero 301 1", "pin zero 1 -1", "put a = 3", "put a = 1,0", "put a = 0,0",
            "put a = 9,1", "put q = 1,3", "put a = " + "0," * 401 + "1", "move " + "1" + "0" * 1990, "stand -" + "9" * 70,
        ]
        self.answers(shelf, [(line, "invalid") for line in cases])
        self.assertEqual(shelf, Shelf(3, {"a": ONE, "b": T, "o": ()}))
        self.answers(shelf, [("degree 300 " + "9" * 60, "-1"), ("put a = 0", "edition 2"), ("ask zero 300 0", "yes 0")])

    def test_beside_the_functions(self):
        for q in FIELDS:
            numbers = Numbers(q)
            one = some_shelf(q, numbers, 3)
            other = one.twin()
            shell = Shell(one)
            for _ in range(60):
                turn = numbers.below(6)
                if turn < 2:
                    edit = some_edit(q, numbers)
                    answer = told_answer(tried(other.edit, (edit,)), "edition")
                    line = edit_line(edit)
                elif turn == 2:
                    question = some_question(numbers)
                    answer = told_answer(tried(other.pin, question), "claim")
                    line = "pin " + " ".join(map(str, question))
                elif turn == 3:
                    question = some_question(numbers)
                    done = tried(house.decide, q, other.polynomials_at(), question)
                    answer = "invalid"
                    if not isinstance(done, Exception):
                        answer = f"{'yes' if done[0] else 'no'} {texts.write_value(done[1])}"
                    line = "ask " + " ".join(map(str, question))
                elif turn == 4:
                    d, k = numbers.below(5), numbers.below(10 ** 20)
                    answer = str(degrees.sum_degree(q, d, k))
                    line = f"degree {d} {k}"
                else:
                    number = numbers.below(4)
                    done = tried(other.standing, number)
                    answer = "invalid" if isinstance(done, Exception) else done[0]
                    line = f"stand {number}"
                self.assertEqual(shell.say(line), answer)
                self.assertTrue(one == other and one.history == other.history)
                self.assertEqual(shell.say("names"), " ".join(sorted(other.polynomials_at())))
                for name, a in other.polynomials_at().items():
                    self.assertEqual(shell.say(f"show {name}"), texts.write_polynomial(q, a))

    def test_factors(self):
        for q in FIELDS:
            numbers = Numbers(20 + q)
            for _ in range(5):
                a = numbers.polynomial(q, numbers.below(9))
                told = Shell(Shelf(q, {"a": a})).say("factor a")
                self.assertEqual(texts.read_value(told), polys.factors(q, a))

    def test_papers_can_be_read(self):
        for q in FIELDS:
            shelf = some_shelf(q, Numbers(40 + q), 5)
            numbers = Numbers(60 + q)
            for _ in range(30):
                question = some_question(numbers)
                told = Shell(shelf).say("ask " + " ".join(map(str, question)))
                if told != "invalid":
                    word, paper = told.split(" ", 1)
                    named = shelf.polynomials_at()
                    right = house.is_paper(q, named, question, word == "yes", texts.read_value(paper))
                    self.assertIs(right, True)


class Shells(Case):
    def test_it_keeps_the_shelf_itself(self):
        shelf = Shelf(5, {"a": ONE})
        shell, other = Shell(shelf), Shell(shelf)
        shell.say("put b = 1,1")
        self.assertEqual((shelf.editions, other.say("show b")), (2, "1,1"))
        shelf.edit((("drop", "b"),))
        self.assertEqual((shell.say("show b"), shell.said, other.said), ("invalid", 2, 1))

    def test_run(self):
        shell = Shell(Shelf(2))
        self.assertEqual(shell.run(()), ())
        told = shell.run(("put a = 0,1", "", "times a a", "x", "show a", "show b"))
        self.assertEqual(told, ("edition 2", "", "edition 3", "wrong at 0", "0,0,1", "invalid"))
        self.assertEqual((shell.said, str(shell)), (6, "shell, 6 lines said"))
        self.assertEqual(shell.run(("names",) * 40), ("a",) * 40)
        self.assertEqual(shell.run((" " * 2000,)), ("",))

    def test_wrong_values(self):
        for value in NO_COUNTS + [NESTED, {"a": ONE}, "shelf 3", Shelf, polys.Poly(2, T), TOO_LONG, LONGEST]:
            self.refuses(errors.InvalidOperation, None, Shell, value)
        shell = Shell(Shelf(2))
        self.refuses(errors.InvalidOperation, None, Shell, shell)
        wrong = [value for value in NO_COUNTS if not isinstance(value, str)]
        wrong += ["names\n", "\tnames", "names\t", "\n", " " * 2001, "x" * 2001, "x" * 20100, "caf\u00e9", "\x7f", "\x00", NESTED]
        for value in wrong:
            self.refuses(errors.InvalidOperation, None, shell.say, value)
            # Ahead of all: no line is done.
            self.refuses(errors.InvalidOperation, None, shell.run, ("put a = 1", value))
        lists = [None, "", "names", ["names"], {"names": 1}, 1, True, ("names",) * 41, ("put a = 1",) * 41, NESTED, (1,)]
        for value in lists + [("put a = 1", ("names",))]:
            self.refuses(errors.InvalidOperation, None, shell.run, value)
        self.assertEqual((shell.said, shell.say("names"), shell.said), (0, "", 1))
        self.assertEqual(shell.say("put a = " + "0," * 995 + "0"), "invalid")
        self.assertRaises(TypeError, iter, shell)


if __name__ == "__main__":
    unittest.main()

"""monicsums.house.shelf: the points 19.1 to 19.3."""

import itertools
import unittest

from monicsums import errors
from monicsums.ground import polys
from monicsums.house import shelf as house
from monicsums.house.shelf import Shelf
from monicsums.sums import partings
from monicsums.tables import additive
from tests.shelves import NAMES, some_edit, some_question, some_shelf, tried
from tests.support import FIELDS, LONGEST, NESTED, NO_COUNTS, TOO_LONG, Case, Numbers, no_polynomials, slow_added
from tests.support import slow_below, slow_times

ONE = (1,)
T = (0, 1)
WRONG_NAMES = ["", "A", "1", "1a", "a b", "a_", "ab!", "ninechars", "-", "a\n", "a\t", " a", "a ", "x" * 20100]
NO_NAMES = [None, 1, True, (), [], ("a",), ["a"], {}, NESTED] + WRONG_NAMES
NO_TUPLES = [None, "", "zero", 0, 1, True, [], {}, {"a": 1}, (), NESTED, TOO_LONG, errors.Refused(1), Shelf(2)]


def no_named(q):
    """Values that are no named polynomials."""
    many = {f"a{at}": ONE for at in range(21)}
    wrong = [{name: ONE} for name in NO_NAMES if not isinstance(name, (list, dict))]
    wrong += [{"a": ONE, name: ONE} for name in WRONG_NAMES]
    wrong += [{"a": value} for value in no_polynomials(q)]
    return [None, "", 0, True, [], (), ("a",), [("a", ONE)], (("a", ONE),), many, Shelf(q), polys.Poly(q, ONE)] + wrong + [
        {"a": (0,) * 61 + ONE}, {"a": ONE, "b": (0,) * 400 + ONE},
    ]


QUESTIONS = [
    ("zero", 0, 0), ("zero", 300, 0), ("zero", 0, LONGEST), ("zero", 3, 10 ** 20), ("divides", "a", "b"),
    ("divides", "a", "a"), ("divides", "longname", "a1234567"), ("hang", "a"), ("hang", "a", "b"),
    ("hang", "a", "a", "a"), ("hang", "a", "b", "c", "d"),
]
NO_QUESTIONS = NO_TUPLES + [
    ("zero",), ("zero", 1), ("zero", 1, 2, 3), ("zero", -1, 0), ("zero", 301, 0), ("zero", 0, -1), ("zero", True, 0),
    ("zero", 0, True), ("zero", "1", 0), ("zero", 0, None), ("zero", 0, TOO_LONG), ("zero", (1,), 0), ("divides",),
    ("divides", "a"), ("divides", "a", "b", "c"), ("divides", 1, 2), ("divides", "a", ONE), ("hang",),
    ("hang", "a", "b", "c", "d", "e"), ("hang", 1), ("hang", ("a",)), ("hang", "a", None), ("other", "a"), ("a", "b"),
    ["zero", 0, 0], ["hang", "a"], (["zero"], 0, 0), (None, "a"), ("ZERO", 0, 0), ((), ()), (1, 2, 3), ({}, {}),
] + [("divides", "a", name) for name in NO_NAMES] + [("hang", name) for name in NO_NAMES]


def edits_of(q):
    return [
        ("put", "a", ()), ("put", "longname", T), ("put", "a", (0,) * 400 + ONE), ("put", "b2", (q - 1,)),
        ("drop", "a"), ("add", "a", "b"), ("add", "a", "a"), ("times", "a", "b"), ("move", 0), ("move", q - 1),
    ]


def no_edits(q):
    return NO_TUPLES + [("put", "a", value) for value in no_polynomials(q)] + [
        ("put",), ("put", "a"), ("put", "a", ONE, ONE), ("put", ONE, "a"), ("put", "A", ONE), ("put", 1, ONE), ("put", "ninechars", ONE), ("drop",), ("drop", "a", "b"), ("drop", 1),
        ("add",), ("add", "a"), ("add", "a", "b", "c"), ("add", "a", ONE), ("times", "a"), ("times", 1, 2),
        ("times", "a", "b", "c"), ("move",), ("move", q), ("move", -1), ("move", True), ("move", "1"), ("move", 0, 0),
        ("move", ONE), ("move", "a"), ("other", "a"), ("a", "b"), (1, 2), ("PUT", "a", ONE), ["drop", "a"],
        (["drop"], "a"), (None, "a"), ({}, "a"), ("put", "a", [1]),
    ] + [(word, name) for word in ("drop",) for name in NO_NAMES] + [("add", "a", name) for name in NO_NAMES]


def moved(q, a, c):
    """a with T + c put in, by powers."""
    made, power = (), ONE
    for x in a:
        made = slow_added(q, made, slow_times(q, (x,) if x else (), power))
        power = slow_times(q, power, (c, 1))
    return made


def behind(q, named, edit):
    """The named polynomials behind an edit, or the word by which it is refused."""
    named = dict(named)
    word, rest = edit[0], edit[1:]
    if word in ("drop", "add", "times") and any(name not in named for name in rest):
        return "unknown"
    if word == "put":
        if rest[0] not in named and len(named) == 20:
            return "many"
        named[rest[0]] = rest[1]
    elif word == "drop":
        del named[rest[0]]
    elif word == "add":
        named[rest[0]] = slow_added(q, named[rest[0]], named[rest[1]])
    elif word == "times":
        named[rest[0]] = polys.times(q, named[rest[0]], named[rest[1]])
    else:
        named = {name: moved(q, a, rest[0]) for name, a in named.items()}
    if any(len(a) > 61 for a in named.values()):
        return "great"
    return named


def told_verdict(q, named, question):
    """Whether the answer is yes, None if the question is none."""
    word, rest = question[0], question[1:]
    if word == "zero":
        return partings.is_zero_sum(q, *rest)
    if any(name not in named for name in rest):
        return None
    rows = tuple(named[name] for name in rest)
    if word == "hang":
        return additive.dependence(q, rows) is not None
    if rows[0] == ():
        return None
    return polys.divided(q, rows[1], rows[0])[1] == ()


class Questions(Case):
    def test_forms(self):
        for value in QUESTIONS:
            self.assertIs(house.is_question(value), True, value)
        for value in NO_QUESTIONS:
            self.assertIs(house.is_question(value), False, value)
        limits = (house.MAX_NAMED, house.MAX_CLAIMS, house.MAX_EDITIONS, house.MAX_EDITS, house.MAX_KEPT)
        self.assertEqual(limits, (20, 20, 40, 10, 60))

    def test_zero(self):
        for q in FIELDS:
            for d in range(0, 4):
                for k in range(0, 60):
                    question = ("zero", d, k)
                    verdict, paper = house.decide(q, {}, question)
                    self.assertIs(verdict, partings.is_zero_sum(q, d, k))
                    self.assertIs(house.is_paper(q, {}, question, verdict, paper), True)
                    right = [j for j in range(-1, 4) if partings.is_digit_bar(q, d, k, j)]
                    if not verdict:
                        right = list(partings.all_partings(q, d, k))
                    for value in right + [0, 1, 2, (k,), (0, k), (k, 0), None, True, (True,)]:
                        fine = repr(value) in [repr(one) for one in right]
                        self.assertIs(house.is_paper(q, {}, question, verdict, value), fine)
                        self.assertIs(house.is_paper(q, {}, question, not verdict, value), False)
            for question in (("zero", 300, LONGEST), ("zero", 0, 0), ("zero", 30, 2 ** 190 - 1)):
                verdict, paper = house.decide(q, {}, question)
                self.assertIs(house.is_paper(q, {}, question, verdict, paper), True)

    def test_divides(self):
        for q in FIELDS:
            numbers = Numbers(q)
            for _ in range(40):
                a = numbers.polynomial(q, numbers.below(6))
                b = numbers.polynomial(q, numbers.below(8) - 1)
                if numbers.below(2):
                    b = slow_times(q, a, b)
                named = {"a": a, "b": b}
                quotient, rest = polys.divided(q, b, a)
                question = ("divides", "a", "b")
                told = (True, quotient) if rest == () else (False, (quotient, rest))
                self.assertEqual(house.decide(q, named, question), told)
                self.assertIs(house.is_paper(q, named, question, *told), True)
                values = [quotient, (quotient, rest), (rest, quotient), (quotient,), [quotient, rest], None, True, (), a]
                values += [(quotient, rest, ()), quotient + (0,), tuple(bool(x) if x < 2 else x for x in quotient)]
                values += [(tuple(bool(x) if x < 2 else x for x in quotient), rest), list(quotient), NESTED, named]
                for value in values:
                    fine = repr(value) == repr(told[1])
                    self.assertIs(house.is_paper(q, named, question, told[0], value), fine)
                    self.assertIs(house.is_paper(q, named, question, not told[0], value), False)

    def test_hang(self):
        for q in (2, 3, 4):
            for many in (1, 2, 3):
                for rows in itertools.product(slow_below(q, 2), repeat=many):
                    if q > 2 and many == 3 and rows[0] != (1, 1):
                        continue
                    named = dict(zip("abc", rows))
                    question = ("hang",) + tuple("abc")[:many]
                    verdict, paper = house.decide(q, named, question)
                    sums = []
                    for factors in itertools.product(range(q), repeat=many):
                        total = ()
                        for factor, a in zip(factors, rows):
                            total = slow_added(q, total, slow_times(q, (factor,) if factor else (), a))
                        if any(factors):
                            self.assertIs(house.is_paper(q, named, question, True, factors), total == ())
                        sums.append((factors, total))
                    self.assertIs(verdict, () in [total for factors, total in sums if any(factors)])
                    self.assertIs(house.is_paper(q, named, question, verdict, paper), True)
                    self.assertIs(house.is_paper(q, named, question, True, (0,) * many), False)
                    if many < 3:
                        for parts in itertools.product(sums, repeat=many):
                            lengths = {len(total) for _, total in parts}
                            value = tuple(factors for factors, _ in parts)
                            fine = len(lengths) == many and 0 not in lengths
                            self.assertIs(house.is_paper(q, named, question, False, value), fine)

    def test_papers_of_four(self):
        for q in FIELDS:
            numbers = Numbers(30 + q)
            for _ in range(20):
                named = {name: numbers.polynomial(q, numbers.below(5) - 1) for name in "abcd"}
                for question in (("hang", "a", "b", "c", "d"), ("hang", "d", "a", "d"), ("hang", "c"), ("hang", "b", "a")):
                    verdict, paper = house.decide(q, named, question)
                    self.assertIs(verdict, told_verdict(q, named, question))
                    self.assertIs(house.is_paper(q, named, question, verdict, paper), True)
                    self.assertIs(house.is_paper(q, named, question, not verdict, paper), False)
                    for value in (list(paper), paper + paper[:1], paper[1:], (), None, paper[0]):
                        self.assertIs(house.is_paper(q, named, question, verdict, value), False)
        named = {"a": (1, 1), "b": (0, 0, 1)}
        for value in (((1, 0), (0, 1)), ((1, 0), (1, 1)), ((0, 1), (1, 0))):
            self.assertIs(house.is_paper(2, named, ("hang", "a", "b"), False, value), True)
        wrong = [((True, 0), (0, 1)), ((1, 0), (0, 2)), ((1, 0), (0, 0)), ((1, 0), [0, 1]), ((1, 0),), ((1, 0), (0, 1), (1, 1))]
        wrong += [((-1, 0), (0, 1)), ((1, 0), (0, -1)), ((1,), (0, 1)), ((1, 0, 0), (0, 1, 0)), ((0, 1), (1, 1)), ((1, 0), (1, 0)), ((1, 0), None), "10", NESTED]
        for value in wrong:
            self.assertIs(house.is_paper(2, named, ("hang", "a", "b"), False, value), False)
        self.assertIs(house.is_paper(2, {"a": T}, ("hang", "a", "a"), True, (1, 1)), True)
        self.assertIs(house.is_paper(2, {"a": T}, ("hang", "a", "a"), True, (True, True)), False)

    def test_wrong_values(self):
        good = {"a": ONE, "b": T, "c": ()}
        for q in FIELDS:
            # Names that are not there, and a divisor 0.
            wrong = NO_QUESTIONS + [("divides", "a", "d"), ("divides", "d", "a"), ("divides", "c", "a"), ("hang", "d")]
            wrong += [("divides", "c", "c"), ("hang", "a", "b", "c", "d")]
            kinds = (errors.InvalidPolynomial, no_named(q)), (errors.InvalidOperation, wrong)
            self.refuses_in_order(
                lambda named, question, q=q: house.decide(q, named, question), (good, ("hang", "a")), kinds
            )
            verdicts = [None, 0, 1, "True", (), (True,), [], NESTED]
            self.refuses_in_order(
                lambda named, question, verdict, q=q: house.is_paper(q, named, question, verdict, None),
                (good, ("divides", "a", "c"), True), kinds + ((errors.InvalidOperation, verdicts),),
            )
        self.refuses_fields(house.decide, good, ("hang", "a"))
        self.refuses_fields(house.is_paper, good, ("hang", "a"), True, None)
        # 0 is divided by all others.
        self.assertEqual(house.decide(3, good, ("divides", "a", "c")), (True, ()))


class Edits(Case):
    def test_forms(self):
        for q in FIELDS:
            for value in edits_of(q):
                self.assertIs(house.is_edit(q, value), True, value)
            for value in no_edits(q):
                self.assertIs(house.is_edit(q, value), False, value)
        self.refuses_fields(house.is_edit, ("drop", "a"))

    def test_edits(self):
        for q in FIELDS:
            numbers = Numbers(40 + q)
            named = {name: numbers.polynomial(q, numbers.below(9)) for name in NAMES[:5]}
            for _ in range(30):
                edits = tuple(some_edit(q, numbers, 40) for _ in range(1 + numbers.below(4)))
                kept, made, word = dict(named), named, None
                for at, edit in enumerate(edits):
                    made = behind(q, made, edit)
                    if isinstance(made, str):
                        word = ("edit", at, made)
                        break
                if word is not None:
                    self.refuses(errors.Refused, word, house.edited, q, named, edits)
                else:
                    told = house.edited(q, named, edits)
                    self.assertEqual(told, made)
                    self.assertEqual(list(told), sorted(told))
                    self.assertIsNot(told, named)
                    self.assertEqual(named, kept)
                    named = dict(sorted(told.items(), reverse=True))

    def test_refused(self):
        full = {f"a{at}": ONE for at in range(20)}
        long = (0,) * 60 + ONE
        self.assertEqual(len(house.edited(2, dict(list(full.items())[:19]), (("put", "b", long),))), 20)
        self.assertEqual(len(house.edited(2, full, (("put", "a3", long),))), 20)
        self.assertEqual(len(house.edited(2, full, (("drop", "a3"), ("put", "b", long), ("move", 1)))), 20)
        cases = [
            ({}, (("drop", "a"),), (0, "unknown")), (full, (("add", "a0", "b"),), (0, "unknown")),
            (full, (("add", "b", "a0"),), (0, "unknown")), (full, (("times", "b", "b"),), (0, "unknown")),
            (full, (("put", "b", ONE),), (0, "many")), (full, (("put", "b", (0,) * 61 + ONE),), (0, "many")),
            (full, (("put", "a0", (0,) * 61 + ONE),), (0, "great")), ({}, (("put", "b", (0,) * 400 + ONE),), (0, "great")),
            (full, (("put", "a0", (0,) * 31 + ONE), ("times", "a0", "a0")), (1, "great")),
            (full, (("put", "a0", (0,) * 30 + ONE), ("times", "a0", "a0"), ("drop", "a0"), ("drop", "a0")), (3, "unknown")),
            (full, (("drop", "a0"), ("put", "b", ONE), ("put", "a0", ONE)), (2, "many")),
        ]
        for named, edits, (at, word) in cases:
            self.refuses(errors.Refused, ("edit", at, word), house.edited, 2, named, edits)
        half = {"a": (0,) * 30 + ONE, "b": (0,) * 31 + ONE}
        self.refuses(errors.Refused, ("edit", 0, "great"), house.edited, 2, half, (("times", "a", "b"),))
        self.assertEqual(house.edited(2, half, (("times", "a", "a"),))["a"], long)
        # 0 times a long one is 0.
        self.assertEqual(house.edited(2, {"a": (), "b": long}, (("times", "a", "b"),)), {"a": (), "b": long})
        self.assertEqual(house.edited(2, {"a": long}, (("add", "a", "a"),)), {"a": ()})

    def test_moves(self):
        for q in FIELDS:
            numbers = Numbers(50 + q)
            for degree in (-1, 0, 1, 5, 30, 60):
                a = numbers.polynomial(q, degree)
                for c in range(q):
                    made = house.edited(q, {"a": a}, (("move", c),))["a"]
                    self.assertEqual(made, moved(q, a, c))

    def test_wrong_values(self):
        good = {"a": ONE}
        for q in FIELDS:
            wrong = [(value,) for value in no_edits(q)] + [(("drop", "a"), value) for value in no_edits(q)]
            wrong += [None, "", (), [], [("drop", "a")], ("drop", "a"), 1, True, {}, (("move", 0),) * 11, NESTED]
            kinds = (errors.InvalidPolynomial, no_named(q)), (errors.InvalidOperation, wrong)
            self.refuses_in_order(lambda named, edits, q=q: house.edited(q, named, edits), (good, (("move", 0),)), kinds)
            self.assertEqual(house.edited(q, good, (("move", 0),) * 10), good)
            # Edits are judged as a whole, ahead of what is refused.
            self.refuses(errors.InvalidOperation, None, house.edited, q, good, (("drop", "b"), ("drop",)))
        self.refuses_fields(house.edited, good, (("move", 0),))


class Shelves(Case):
    def test_example(self):
        shelf = Shelf(3, {"a": (1, 1), "b": (2, 0, 1)})
        made = [
            shelf.pin(("divides", "a", "b")), shelf.pin(("zero", 2, 8)), shelf.pin(("hang", "a", "b")),
            shelf.claims[0], shelf.standing(1),
        ]
        self.assertEqual(made, [1, 2, 3, (("divides", "a", "b"), True, 1), ("stands", True, (2, 1))])
        self.assertEqual(str(Shelf(4, {"a": (), "b": ONE, "c": T})), "shelf of 3 polynomials over 4, edition 1")
        self.assertEqual(str(Shelf(9)), "shelf of 0 polynomials over 9, edition 1")

    def check_all(self, q, shelf, editions, claims, history):
        """Compare a shelf with what was kept beside it."""
        self.assertEqual((shelf.field, shelf.editions, len(shelf)), (q, len(editions), len(editions[-1])))
        self.assertEqual(shelf.claims, tuple(claims))
        self.assertEqual(shelf.history, tuple(history))
        told = f"shelf of {len(editions[-1])} polynomials over {q}, edition {len(editions)}"
        self.assertEqual(str(shelf), told)
        for number, named in enumerate(editions, start=1):
            self.assertEqual(list(shelf.polynomials_at(number).items()), sorted(named.items()))
        self.assertEqual(shelf.polynomials_at(), shelf.polynomials_at(None))
        self.assertEqual(shelf.polynomials_at(), editions[-1])
        for name in NAMES:
            self.assertIs(name in shelf, name in editions[-1])
        fallen = []
        for number, (question, pinned, first) in enumerate(claims, start=1):
            ahead = None
            for at in range(first, len(editions) + 1):
                word, verdict, paper = shelf.standing(number, at)
                self.assertIs(verdict, told_verdict(q, editions[at - 1], question))
                if verdict is None:
                    self.assertIsNone(paper)
                else:
                    fine = house.is_paper(q, editions[at - 1], question, verdict, paper)
                    self.assertIs(fine, True)
                if verdict is not pinned:
                    self.assertEqual(word, "fallen")
                elif at == first or house.is_paper(q, editions[at - 1], question, verdict, ahead):
                    self.assertEqual((word, paper), ("stands", paper if at == first else ahead))
                else:
                    self.assertEqual(word, "another")
                if question[0] == "zero":
                    self.assertEqual(word, "stands")
                ahead = paper
            self.assertEqual(shelf.standing(number), shelf.standing(number, len(editions)))
            self.assertEqual(shelf.standing(number), shelf.standing(number, None))
            if shelf.standing(number)[0] == "fallen":
                fallen.append(number)
        self.assertEqual(shelf.fallen, tuple(fallen))

    def test_beside_a_model(self):
        words = set()
        for q in FIELDS:
            numbers = Numbers(60 + q)
            for _ in range(4):
                named = {name: numbers.polynomial(q, numbers.below(3)) for name in NAMES[:4]}
                shelf = Shelf(q, dict(reversed(named.items())))
                editions, claims, history = [named], [], []
                for _ in range(40):
                    if numbers.below(3) == 0:
                        question = some_question(numbers)
                        verdict = told_verdict(q, editions[-1], question)
                        if verdict is None:
                            self.refuses(errors.InvalidOperation, None, shelf.pin, question)
                        elif len(claims) == 20:
                            self.refuses(errors.TooMany, 20, shelf.pin, question)
                        else:
                            claims.append((question, verdict, len(editions)))
                            history.append(("pin", question))
                            self.assertEqual(shelf.pin(question), len(claims))
                    else:
                        edits = tuple(some_edit(q, numbers, 2) for _ in range(1 + numbers.below(2)))
                        made = editions[-1]
                        for edit in edits:
                            made = made if isinstance(made, str) else behind(q, made, edit)
                        if isinstance(made, str):
                            self.assertIsInstance(tried(shelf.edit, edits), errors.Refused)
                        else:
                            editions.append(made)
                            history.append(("edit", edits))
                            self.assertEqual(shelf.edit(edits), len(editions))
                self.check_all(q, shelf, editions, claims, history)
                for number, (_, _, first) in enumerate(claims, start=1):
                    words |= {shelf.standing(number, at)[0] for at in range(first, len(editions) + 1)}
        self.assertEqual(words, {"stands", "another", "fallen"})

    def test_a_claim_that_comes_back(self):
        shelf = Shelf(2, {"a": T, "b": (0, 0, 1)})
        shelf.pin(("divides", "a", "b"))
        shelf.edit((("drop", "a"),))
        self.assertEqual((shelf.standing(1), shelf.fallen), (("fallen", None, None), (1,)))
        shelf.edit((("put", "a", ()),))
        self.assertEqual(shelf.standing(1), ("fallen", None, None))
        shelf.edit((("put", "a", (1, 1)),))
        self.assertEqual(shelf.standing(1), ("fallen", False, ((1, 1), ONE)))
        shelf.edit((("put", "a", T),))
        self.assertEqual((shelf.standing(1), shelf.fallen), (("another", True, T), ()))
        shelf.edit((("put", "c", ONE),))
        self.assertEqual(shelf.standing(1), ("stands", True, T))
        shelf.edit((("put", "b", T),))
        self.assertEqual(shelf.standing(1), ("another", True, ONE))
        told = ["stands", "fallen", "fallen", "fallen", "another", "stands", "another"]
        self.assertEqual([shelf.standing(1, at)[0] for at in range(1, 8)], told)

    def test_moves_let_all_stand(self):
        for q in FIELDS:
            numbers = Numbers(80 + q)
            shelf = Shelf(q, {name: numbers.polynomial(q, 2 + numbers.below(3)) for name in "abcd"})
            shelf.edit((("put", "e", slow_times(q, shelf.polynomials_at()["a"], (1, 1))),))
            for question in (
                ("zero", 2, 40), ("zero", 300, 5), ("hang", "a", "b"), ("hang", "a", "b", "c", "d"),
                ("hang", "a", "a"), ("divides", "a", "b"), ("divides", "a", "e"),
            ):
                shelf.pin(question)
            for c in range(1, q):
                shelf.edit((("move", c),))
                self.assertEqual(shelf.fallen, ())
                for number, (question, _, _) in enumerate(shelf.claims, start=1):
                    if question[0] != "divides":
                        last = shelf.editions - 1
                        self.assertEqual(shelf.standing(number), shelf.standing(number, last))
                        self.assertEqual(shelf.standing(number)[0], "stands")

    def test_zero_stands_behind_all_edits(self):
        for q in FIELDS:
            shelf = Shelf(q)
            shelf.pin(("zero", 3, 10 ** 20))
            shelf.pin(("zero", 300, 7))
            told = shelf.standing(1), shelf.standing(2)
            for edit in (("put", "a", T), ("move", 1), ("times", "a", "a"), ("drop", "a")):
                shelf.edit((edit,))
                self.assertEqual((shelf.standing(1), shelf.standing(2)), told)

    def test_limits(self):
        shelf = Shelf(5, {f"a{at}": ONE for at in range(20)})
        for at in range(39):
            self.assertEqual(shelf.edit((("move", 1),) * 10), at + 2)
        before = shelf.twin()
        self.refuses(errors.TooMany, 40, shelf.edit, (("move", 1),))
        # What edits refuse comes first.
        self.refuses(errors.InvalidOperation, None, shelf.edit, (("move", 1),) * 11)
        self.refuses(errors.Refused, ("edit", 1, "unknown"), shelf.edit, (("move", 1), ("drop", "b")))
        for at in range(20):
            self.assertEqual(shelf.pin(("zero", at, 5)), at + 1)
        self.refuses(errors.TooMany, 20, shelf.pin, ("zero", 0, 5))
        self.refuses(errors.InvalidOperation, None, shelf.pin, ("hang", "b"))
        self.assertEqual((before.editions, before.claims, shelf.editions, len(shelf.claims)), (40, (), 40, 20))

    def test_what_is_refused_has_no_effect(self):
        for q in FIELDS:
            shelf = some_shelf(q, Numbers(90 + q))
            before, told = shelf.twin(), (shelf.history, shelf.fallen, str(shelf))
            calls = [(shelf.edit, value) for value in [(), None, (("drop", "nothing"),), (("move", 0), ("drop", "q"))]]
            calls += [(shelf.edit, (("put", "b", ONE), ("put", "a", (0,) * 61 + ONE)))]
            calls += [(shelf.pin, value) for value in [(), None, ("hang", "nothing"), ("zero", 301, 0)]]
            calls += [(shelf.standing, value) for value in NO_COUNTS + [0, 21]]
            calls += [(shelf.polynomials_at, value) for value in NO_COUNTS[1:] + [0, 41]]
            for call, value in calls:
                self.assertIsInstance(tried(call, value), Exception)
                self.assertEqual(shelf, before)
                self.assertEqual((shelf.history, shelf.fallen, str(shelf)), told)

    def test_equality_and_twins(self):
        one, other = Shelf(3, {"a": ONE}), Shelf(3, {"a": ONE})
        self.assertTrue(one == other and not one != other)
        self.assertFalse(one == Shelf(2, {"a": ONE}) or one == Shelf(3, {"b": ONE}) or one == Shelf(3, {"a": T}))
        for value in [None, 1, "a", {"a": ONE}, [], (), polys.Poly(3, ONE), NESTED]:
            self.assertFalse(one == value)
            self.assertTrue(one != value)
            self.assertIs(value in one, value == "a")
        # The way to equal editions does not count.
        one.edit((("put", "b", T),))
        self.assertNotEqual(one, other)
        other.edit((("put", "b", ONE), ("put", "b", T)))
        self.assertEqual(one, other)
        self.assertNotEqual(one.history, other.history)
        one.pin(("hang", "a"))
        self.assertNotEqual(one, other)
        twin = one.twin()
        self.assertTrue(twin == one and twin.history == one.history and twin is not one)
        twin.edit((("drop", "a"),))
        self.assertTrue(twin.editions == 3 and one.editions == 2 and "a" in one and "a" not in twin)
        self.assertEqual((twin.fallen, one.fallen), ((1,), ()))
        one.pin(("hang", "b"))
        self.assertEqual((len(twin.claims), len(one.claims)), (1, 2))

    def test_no_state_is_shared(self):
        named = {"b": ONE, "a": T}
        shelf = Shelf(2, named)
        named["c"] = ONE
        del named["a"]
        told = shelf.polynomials_at()
        self.assertEqual(list(told.items()), [("a", T), ("b", ONE)])
        told["d"] = ONE
        del told["a"]
        shelf.polynomials_at(1)["e"] = ONE
        self.assertEqual(list(shelf.polynomials_at(1)), ["a", "b"])
        self.assertEqual((len(shelf), "a" in shelf, "c" in shelf, "d" in shelf), (2, True, False, False))

    def test_wrong_values(self):
        for q in FIELDS:
            for value in no_named(q):
                if value is not None:
                    self.refuses(errors.InvalidPolynomial, None, Shelf, q, value)
            self.assertEqual(Shelf(q), Shelf(q, None))
            self.assertEqual(Shelf(q), Shelf(q, {}))
        self.refuses_fields(Shelf, {})
        self.refuses_fields(Shelf)
        shelf = Shelf(3, {"a": ONE})
        shelf.edit((("move", 1),))
        shelf.pin(("hang", "a"))
        shelf.edit((("move", 1),))
        for value in NO_COUNTS + [0, 2, LONGEST]:
            self.refuses_number(value, shelf.standing, value)
            self.refuses_number(value, shelf.standing, value, 3)
            self.refuses_number(value, shelf.standing, value, 99)
        for value in NO_COUNTS[1:] + [0, 1, 4, LONGEST]:
            self.refuses_number(value, shelf.standing, 1, value)
            if value != 1 or isinstance(value, bool):
                self.refuses_number(value, shelf.polynomials_at, value)
        self.assertRaises(TypeError, iter, shelf)
        self.assertRaises(TypeError, lambda: shelf[0])


if __name__ == "__main__":
    unittest.main()

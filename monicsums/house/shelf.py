"""A shelf: editions of named polynomials, and claims about them."""

from monicsums.errors import InvalidOperation, InvalidPolynomial, Refused, TooMany
from monicsums.ground.fields import check_field
from monicsums.ground.integers import check_between
from monicsums.ground.rows import is_row_over
from monicsums.house.edits import behind_edit, greatest_length, is_editing, needed_names
from monicsums.house.questions import decided, is_about, is_asking, is_name, is_shown

MAX_NAMED = 20
MAX_CLAIMS = 20
MAX_EDITIONS = 40
MAX_EDITS = 10
MAX_KEPT = 60


def check_named(q, polynomials):
    """Raise InvalidPolynomial unless the value is a dict from at most twenty names to polynomials."""
    check_field(q)
    if not isinstance(polynomials, dict) or len(polynomials) > MAX_NAMED:
        raise InvalidPolynomial("not a dict of at most twenty polynomials")
    if not all([is_name(name) for name in polynomials]):
        raise InvalidPolynomial("not names")
    if not all([is_row_over(q, polynomials[name], MAX_KEPT) for name in polynomials]):
        raise InvalidPolynomial("not polynomials over the field of a degree of at most 60")


def check_question(polynomials, question):
    """Raise InvalidOperation unless the value is a question about these polynomials."""
    if not is_about(polynomials, question):
        raise InvalidOperation("not a question about these polynomials")


def is_question(value):
    """Whether the value is a question by its form."""
    return is_asking(value)


def decide(q, polynomials, question):
    """The pair of the verdict and a paper for it."""
    check_named(q, polynomials)
    check_question(polynomials, question)
    return decided(q, polynomials, question)


def is_paper(q, polynomials, question, verdict, value):
    """Whether the value is a paper for the verdict, which is the right one."""
    check_named(q, polynomials)
    check_question(polynomials, question)
    if not isinstance(verdict, bool):
        raise InvalidOperation("not a verdict")
    return is_shown(q, polynomials, question, verdict, value)


def is_edit(q, value):
    """Whether the value is an edit by its form."""
    check_field(q)
    return is_editing(q, value)


def refusal(polynomials, edit):
    """The word by which an edit is refused, None if it is not."""
    if not all([name in polynomials for name in needed_names(edit)]):
        return "unknown"
    if edit[0] == "put" and edit[1] not in polynomials and len(polynomials) == MAX_NAMED:
        return "many"
    if greatest_length(polynomials, edit) > MAX_KEPT + 1:
        return "great"
    return None


def behind_edits(q, polynomials, edits):
    """The named polynomials behind edits; the edits alone are checked."""
    if not isinstance(edits, tuple) or not 1 <= len(edits) <= MAX_EDITS:
        raise InvalidOperation("not a tuple of one to ten edits")
    if not all([is_editing(q, edit) for edit in edits]):
        raise InvalidOperation("not edits")
    made = polynomials
    for at, edit in enumerate(edits):
        word = refusal(made, edit)
        if word is not None:
            raise Refused(("edit", at, word))
        made = behind_edit(q, made, edit)
    return made


def ascending(polynomials):
    """The same polynomials with ascending names."""
    return {name: polynomials[name] for name in sorted(polynomials)}


def edited(q, polynomials, edits):
    """The named polynomials behind edits, done one after the other."""
    check_named(q, polynomials)
    return behind_edits(q, ascending(polynomials), edits)


def next_standing(q, polynomials, claim, last):
    """The standing of a claim at an edition with these polynomials, by that at the edition ahead."""
    question, pinned, _ = claim
    # Nothing of this question hangs on polynomials.
    if question[0] == "zero":
        return last
    if not is_about(polynomials, question):
        return "fallen", None, None
    verdict, paper = decided(q, polynomials, question)
    if verdict != pinned:
        return "fallen", verdict, paper
    if is_shown(q, polynomials, question, verdict, last[2]):
        return "stands", verdict, last[2]
    return "another", verdict, paper


class Shelf:
    """Editions of named polynomials, and claims that were pinned at them."""

    def __init__(self, q, polynomials=None):
        check_field(q)
        first = {}
        if polynomials is not None:
            check_named(q, polynomials)
            first = ascending(polynomials)
        self._field = q
        self._editions = [first]
        self._claims = []
        # For each claim its standings, from the edition on at which it was pinned.
        self._standings = []
        self._history = []

    @property
    def field(self):
        """The number q of the elements of the field."""
        return self._field

    @property
    def editions(self):
        """How many editions there are."""
        return len(self._editions)

    @property
    def claims(self):
        """The triples (question, verdict, edition)."""
        return tuple(self._claims)

    @property
    def fallen(self):
        """The numbers of the claims that are fallen at the last edition."""
        return tuple([at + 1 for at, row in enumerate(self._standings) if row[-1][0] == "fallen"])

    @property
    def history(self):
        """All calls that were done, in order: pairs of a word and of edits or a question."""
        return tuple(self._history)

    def edit(self, edits):
        """Make a further edition; returns its number."""
        behind = behind_edits(self._field, self._editions[-1], edits)
        if len(self._editions) >= MAX_EDITIONS:
            raise TooMany(MAX_EDITIONS)
        self._standings = [
            row + [next_standing(self._field, behind, claim, row[-1])]
            for claim, row in zip(self._claims, self._standings)
        ]
        self._editions.append(behind)
        self._history.append(("edit", edits))
        return len(self._editions)

    def pin(self, question):
        """Make a claim at the last edition; returns its number."""
        polynomials = self._editions[-1]
        check_question(polynomials, question)
        if len(self._claims) >= MAX_CLAIMS:
            raise TooMany(MAX_CLAIMS)
        verdict, paper = decided(self._field, polynomials, question)
        self._claims.append((question, verdict, len(self._editions)))
        self._standings.append([("stands", verdict, paper)])
        self._history.append(("pin", question))
        return len(self._claims)

    def polynomials_at(self, edition=None):
        """The named polynomials of an edition, of the last one for None."""
        at = len(self._editions)
        if edition is not None:
            check_between(edition, 1, at)
            at = edition
        return dict(self._editions[at - 1])

    def standing(self, number, edition=None):
        """The triple (word, verdict, paper) of a claim at an edition, the last one for None."""
        check_between(number, 1, len(self._claims))
        pinned = self._claims[number - 1][2]
        at = len(self._editions)
        if edition is not None:
            check_between(edition, pinned, at)
            at = edition
        return self._standings[number - 1][at - pinned]

    def twin(self):
        """An equal shelf that changes by itself."""
        made = Shelf(self._field)
        made._editions = list(self._editions)
        made._claims = list(self._claims)
        made._standings = list(self._standings)
        made._history = list(self._history)
        return made

    def __contains__(self, value):
        return isinstance(value, str) and value in self._editions[-1]

    def __len__(self):
        return len(self._editions[-1])

    def __eq__(self, other):
        return (
            isinstance(other, Shelf)
            and self._field == other._field
            and self._editions == other._editions
            and self._claims == other._claims
        )

    def __str__(self):
        return f"shelf of {len(self._editions[-1])} polynomials over {self._field}, edition {len(self._editions)}"

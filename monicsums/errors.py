"""The errors of the package."""


class MonicError(ValueError):
    """The base of the errors that tell of a wrong value."""


class InvalidField(MonicError):
    """The value is not the number of one of the fields."""


class InvalidPolynomial(MonicError):
    """The value is not such a polynomial over the field."""


class InvalidQuotient(MonicError):
    """The value is not a quotient over the field."""


class InvalidParting(MonicError):
    """The value is not a parting."""


class InvalidRow(MonicError):
    """The value is not such a row."""


class InvalidName(MonicError):
    """The value is not a name."""


class InvalidOperation(MonicError):
    """The value is not what the operation takes."""


class ParseError(MonicError):
    """A text is wrong; `spot` tells where."""

    def __init__(self, spot):
        super().__init__("the text is wrong")
        self.spot = spot


class InvalidNumber(IndexError):
    """The value `given` is not such a number."""

    def __init__(self, given):
        super().__init__("the number is not one that may stand here")
        self.given = given


class UnknownName(KeyError):
    """There is nothing with the name `asked`."""

    def __init__(self, asked):
        super().__init__("there is nothing with this name")
        self.asked = asked


class NothingToUndo(LookupError):
    """There are not as many steps to undo as `many`."""

    def __init__(self, many):
        super().__init__("there is nothing to undo")
        self.many = many


class TooMany(OverflowError):
    """What would be made is above `limit`."""

    def __init__(self, limit):
        super().__init__("what would be made is above the limit")
        self.limit = limit


class Refused(ArithmeticError):
    """What is asked for cannot be done; `reason` tells why."""

    def __init__(self, reason):
        super().__init__("what is asked for cannot be done")
        self.reason = reason

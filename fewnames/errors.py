"""The errors of the package."""


class FewError(ValueError):
    """A value is not what it has to be."""


class InvalidThreads(FewError):
    """A value is no tuple of threads."""


class InvalidRound(FewError):
    """A value is no round."""


class InvalidRun(FewError):
    """A value is no run."""


class InvalidView(FewError):
    """A value is no view."""


class InvalidProgram(FewError):
    """A value is no program."""


class InvalidGroup(FewError):
    """A value is no group of new names."""


class InvalidWish(FewError):
    """A value is no wish."""


class InvalidName(FewError):
    """A value is no name of a program."""


class InvalidOperation(FewError):
    """A call is not let here."""


class ParseError(FewError):
    """A text has not the form that is read."""

    def __init__(self, at):
        self.at = at


class InvalidNumber(IndexError):
    """A number is none of those that are let."""

    def __init__(self, given):
        self.given = given


class UnknownName(KeyError):
    """Nothing has this name."""

    def __init__(self, wanted):
        self.wanted = wanted


class NothingToUndo(LookupError):
    """There are not so many changes to take back or to make again."""

    def __init__(self, many):
        self.many = many


class TooMany(OverflowError):
    """There would be more than the limit."""

    def __init__(self, limit):
        self.limit = limit


class Refused(ArithmeticError):
    """A change would break a claim."""

    def __init__(self, claim):
        self.claim = claim

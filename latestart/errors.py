"""The errors of the program, all of them directly below PlanError."""


class PlanError(ValueError):
    """The base class of all errors of the program."""


class BillFault(PlanError):
    """A text is no bill: the line and the place of the first fault, and a word for it."""

    def __init__(self, line, place, word):
        self.line = line
        self.place = place
        self.word = word


class BadBooks(PlanError):
    """Books are not right for a bill: a word for their first wrong part."""

    def __init__(self, word):
        self.word = word


class BadPlan(PlanError):
    """A plan is not right for a bill and books: the index of its first wrong entry."""

    def __init__(self, at):
        self.at = at


class NoPlan(PlanError):
    """No plan works, or the given one does not."""


class NoSuchItem(PlanError):
    """A bill has no item of this name."""

    def __init__(self, name):
        self.name = name


class NoSuchOrder(PlanError):
    """Books have no order with this number."""

    def __init__(self, number):
        self.number = number


class InvalidBytes(PlanError):
    """Bytes are no log: the index from which on they are not as they must be."""

    def __init__(self, at):
        self.at = at


class NothingToUndo(PlanError):
    """No event is left that could be undone."""


class TooMany(PlanError):
    """More would be needed than the limit allows."""

    def __init__(self, limit):
        self.limit = limit

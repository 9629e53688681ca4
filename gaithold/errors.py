"""The errors of the package.

Each error has its fields as attributes and the name of its class as `tag`.
"""


class GaitError(ValueError):
    """A value that the package rejects."""

    def __init__(self, tag="GaitError", message=""):
        ValueError.__init__(self, message)
        self.tag = tag


class NotFound(LookupError):
    """A name that nothing has."""

    def __init__(self, tag="NotFound", message=""):
        LookupError.__init__(self, message)
        self.tag = tag


class InvalidTerm(GaitError):
    """A row whose term is not a term."""

    def __init__(self, name):
        GaitError.__init__(self, "InvalidTerm", f"the term of {name!r} is not valid")
        self.name = name


class InvalidName(GaitError):
    """A string that is not a name."""

    def __init__(self, name):
        GaitError.__init__(self, "InvalidName", f"{name!r} is not a name")
        self.name = name


class InvalidCount(GaitError):
    """A number of rows that no system has."""

    def __init__(self, quantity):
        GaitError.__init__(self, "InvalidCount", f"a system cannot have {quantity} rows")
        self.quantity = quantity


class InvalidTimes(GaitError):
    """A list of the wrong length."""

    def __init__(self):
        GaitError.__init__(self, "InvalidTimes", "the number of times or rates is wrong")


class InvalidRound(GaitError):
    """A number of rounds out of range."""

    def __init__(self, number):
        # The number is left out: it may have more digits than Python writes.
        GaitError.__init__(self, "InvalidRound", "the number of rounds is out of range")
        self.number = number


class InvalidShape(GaitError):
    """Linear equations of unequal lengths."""

    def __init__(self, pos):
        GaitError.__init__(self, "InvalidShape", f"the equations have unequal lengths at {pos}")
        self.pos = pos


class InvalidLimit(GaitError):
    """A limit of a delay out of range."""

    def __init__(self, number):
        # The number is left out: it may have more digits than Python writes.
        GaitError.__init__(self, "InvalidLimit", "the limit is out of range")
        self.number = number


class ParseError(GaitError):
    """A text that is not canonical."""

    def __init__(self, pos):
        GaitError.__init__(self, "ParseError", f"the text is not canonical at {pos}")
        self.pos = pos


class InvalidCommand(GaitError):
    """A tuple that is not a command."""

    def __init__(self, first):
        GaitError.__init__(self, "InvalidCommand", f"{first!r} does not begin a command of this length")
        self.first = first


class NameMismatch(GaitError):
    """Two systems with different names."""

    def __init__(self):
        GaitError.__init__(self, "NameMismatch", "the names of the two systems differ")


class TermTooLarge(GaitError):
    """A new term over the limits of size or depth."""

    def __init__(self, name):
        GaitError.__init__(self, "TermTooLarge", f"the new term of {name!r} is too large")
        self.name = name


class DuplicateName(GaitError):
    """A name that is taken."""

    def __init__(self, name):
        GaitError.__init__(self, "DuplicateName", f"the name {name!r} is taken")
        self.name = name


class CapacityExceeded(GaitError):
    """More than a workspace can store."""

    def __init__(self, capacity):
        GaitError.__init__(self, "CapacityExceeded", f"a workspace stores at most {capacity}")
        self.capacity = capacity


class SystemInUse(GaitError):
    """A system that a run uses."""

    def __init__(self, name):
        GaitError.__init__(self, "SystemInUse", f"the run {name!r} uses the system")
        self.name = name


class UnknownEvent(NotFound):
    """A name that no event has."""

    def __init__(self, name):
        NotFound.__init__(self, "UnknownEvent", f"no event has the name {name!r}")
        self.name = name


class UnknownSystem(NotFound):
    """A name that no system has."""

    def __init__(self, name):
        NotFound.__init__(self, "UnknownSystem", f"no system has the name {name!r}")
        self.name = name


class UnknownRun(NotFound):
    """A name that no run has."""

    def __init__(self, name):
        NotFound.__init__(self, "UnknownRun", f"no run has the name {name!r}")
        self.name = name


class ZeroDenominator(ZeroDivisionError):
    """A fraction whose denominator is zero, or a division by zero."""

    def __init__(self):
        ZeroDivisionError.__init__(self, "the denominator is zero")
        self.tag = "ZeroDenominator"


class EmptyHistory(IndexError):
    """No step that can be undone or redone."""

    def __init__(self):
        IndexError.__init__(self, "there is no such step")
        self.tag = "EmptyHistory"

"""The errors of this package, one class for each kind of failure."""


class ThemeError(ValueError):
    """The base class of all errors that this package raises by itself."""


class InvalidBook(ThemeError):
    """An argument has to be a book and is none, or settings have a wrong form."""

    def __init__(self, value=None):
        self.value = value


class PossibleRing(ThemeError):
    """Settings may mention one another in a ring of names."""

    def __init__(self, ring=None):
        self.ring = ring


class UnknownName(ThemeError):
    """Something has to be the name of a setting of the book and is none."""

    def __init__(self, name=None):
        self.name = name


class InvalidLayer(ThemeError):
    """An argument has to be a layer for the book and is none."""

    def __init__(self, value=None):
        self.value = value


class NotAllowed(ThemeError):
    """The row at a position of a layer is not allowed."""

    def __init__(self, index=None):
        self.index = index


class InvalidClaim(ThemeError):
    """An argument has to be a claim, or conflicts, or an end, and is none."""

    def __init__(self, value=None):
        self.value = value


class InvalidNumber(ThemeError):
    """An argument has to be a whole number and is none."""

    def __init__(self, value=None):
        self.value = value


class InvalidList(ThemeError):
    """An argument has to be a list of loose settings or of guards and is none."""

    def __init__(self, value=None):
        self.value = value


class MismatchedBooks(ThemeError):
    """Two books do not match."""


class BrokenClaim(ThemeError):
    """A claim that has to hold does not hold."""

    def __init__(self, claim=None):
        self.claim = claim


class NothingToUndo(ThemeError):
    """There is nothing to take off, to take back or to make again."""

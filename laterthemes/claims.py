"""Claims: what has to be true of the values of a book."""

from laterthemes.books import require_book
from laterthemes.errors import InvalidClaim, InvalidNumber, UnknownName
from laterthemes.facts import are_conflicts, are_true, is_end, unknown_names
from laterthemes.forms import is_whole


class Claim:
    """Conflicts, none of which may have all of its facts true; a claim never changes."""

    def __init__(self, conflicts):
        if not are_conflicts(conflicts):
            raise InvalidClaim(conflicts)
        self._conflicts = [list(conflict) for conflict in conflicts]

    @property
    def conflicts(self):
        """The list of the conflicts."""
        return [list(conflict) for conflict in self._conflicts]

    def __and__(self, other):
        require_claim(other)
        return Claim(self._conflicts + other._conflicts)

    def __eq__(self, other):
        return isinstance(other, Claim) and self._conflicts == other._conflicts

    @staticmethod
    def at_least(one, other, k):
        """The claim that one is at least the other plus k."""
        require_ends(one, other)
        require_number(k)
        return Claim([[(one, other, k - 1)]])

    @staticmethod
    def at_most(one, other, k):
        """The claim that one is at most the other plus k."""
        require_ends(one, other)
        require_number(k)
        return Claim([[(other, one, -k - 1)]])

    @staticmethod
    def equal(one, other):
        """The claim that both are equal."""
        require_ends(one, other)
        return Claim([[(one, other, -1)], [(other, one, -1)]])

    @staticmethod
    def contrast(one, other, k):
        """The claim that both differ by at least k."""
        require_ends(one, other)
        require_number(k)
        return Claim([[(one, other, k - 1), (other, one, k - 1)]])

    @staticmethod
    def within(one, other, k):
        """The claim that both differ by at most k."""
        require_ends(one, other)
        require_number(k)
        return Claim([[(one, other, -k - 1)], [(other, one, -k - 1)]])


def require_claim(claim):
    """Raise InvalidClaim unless this is a claim."""
    if not isinstance(claim, Claim):
        raise InvalidClaim(claim)


def require_ends(one, other):
    """Raise InvalidClaim for the first one of these that is no end."""
    for end in (one, other):
        if not is_end(end):
            raise InvalidClaim(end)


def require_number(k):
    """Raise InvalidNumber unless this is a whole number."""
    if not is_whole(k):
        raise InvalidNumber(k)


def require_names(book, claim):
    """Raise UnknownName for the first name in the claim that the book does not have."""
    unknown = unknown_names(claim.conflicts, book.names())
    if unknown:
        raise UnknownName(unknown[0])


def require_question(book, claim):
    """Raise the errors that all functions with a book and a claim have in common."""
    require_book(book)
    require_claim(claim)
    require_names(book, claim)


def holds(book, claim):
    """Whether the claim holds for the values in the book."""
    require_question(book, claim)
    values = book.evaluate()
    return not any([are_true(conflict, values) for conflict in claim.conflicts])

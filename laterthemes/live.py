"""Live themes: a book and a stack of layers on it, which can be undone and redone."""

from laterthemes.books import require_book
from laterthemes.claims import Claim, holds, require_names
from laterthemes.errors import BrokenClaim, InvalidList, NothingToUndo
from laterthemes.rows import copied_layer, row_to_assign
from laterthemes.verdicts import verdict


class Trial:
    """A block at whose end a live theme is again what it was at its beginning."""

    def __init__(self, theme):
        self._theme = theme

    def __enter__(self):
        self._stacks = self._theme._stacks
        self._at = self._theme._at
        self._guards = self._theme._guards
        return self._theme

    def __exit__(self, kind, value, trace):
        self._theme._stacks = self._stacks
        self._theme._at = self._at
        self._theme._guards = self._guards


class Live:
    """A theme in use: a book, layers on it, and claims that have to hold."""

    def __init__(self, book):
        require_book(book)
        self._first = book
        # A stack is a list of tuples of a layer and the book with it and all below. The stacks before and after each
        # change stand one after another, the one in use at the position `_at`. No list here is ever changed, only
        # replaced, so trials and copies may hold the same lists.
        self._stacks = [[]]
        self._at = 0
        self._guards = []

    @property
    def book(self):
        """The book with all layers added."""
        return book_on(self._first, self._stacks[self._at])

    @property
    def guards(self):
        """The list of the claims that must hold."""
        return list(self._guards)

    @guards.setter
    def guards(self, value):
        self.guard(value)

    def guard(self, claims):
        """Make these claims the ones that must hold, instead of those before."""
        require_claims(claims)
        for claim in claims:
            require_names(self.book, claim)
        require_holding(self.book, claims)
        self._guards = list(claims)

    def layers(self):
        """The list of the layers, the first one first."""
        return [copied_layer(layer) for layer, _ in self._stacks[self._at]]

    def push(self, layer):
        """Put a layer on top."""
        later = self.book + layer
        self._change(self._stacks[self._at] + [(copied_layer(layer), later)])

    def pop(self):
        """Take the top layer off and return it."""
        stack = self._stacks[self._at]
        if not stack:
            raise NothingToUndo()
        self._change(stack[:-1])
        return copied_layer(stack[-1][0])

    def undo(self):
        """Take the last change back."""
        if self._at == 0:
            raise NothingToUndo()
        self._move(self._stacks, self._at - 1)

    def redo(self):
        """Make the change again that was taken back last."""
        if self._at + 1 == len(self._stacks):
            raise NothingToUndo()
        self._move(self._stacks, self._at + 1)

    def trial(self):
        """What tries something out in a `with` statement."""
        return Trial(self)

    def attempt(self, action):
        """Try the action out on this theme and return what it returns."""
        with Trial(self):
            return action(self)

    def copy(self):
        """An independent live theme that is the same."""
        other = Live(self._first)
        other._stacks = self._stacks
        other._at = self._at
        other._guards = self._guards
        return other

    def _change(self, stack):
        """Put a stack behind the one in use, and forget those that were behind it."""
        self._move(self._stacks[:self._at + 1] + [stack], self._at + 1)

    def _move(self, stacks, at):
        """Make the stack at a position the one in use, if the guards hold then."""
        require_holding(book_on(self._first, stacks[at]), self._guards)
        self._stacks = stacks
        self._at = at

    def __getitem__(self, at):
        return self.book[at]

    def __setitem__(self, at, worth):
        self.push([row_to_assign(self.book.setting(at), worth)])

    def __iadd__(self, other):
        self.push(other)
        return self

    def __contains__(self, x):
        return x in self.book

    def __iter__(self):
        # Without this, Python would iterate by asking for the settings 0, 1, 2.
        raise TypeError("a live theme is not iterated over")

    def __len__(self):
        return len(self._stacks[self._at])

    def __call__(self, claim):
        return verdict(self.book, claim)[0]


def book_on(first, stack):
    """The book with all layers of a stack added to the first one."""
    return stack[-1][1] if stack else first


def require_claims(claims):
    """Raise InvalidList unless this is a list of claims."""
    if not isinstance(claims, list) or not all([isinstance(claim, Claim) for claim in claims]):
        raise InvalidList(claims)


def require_holding(book, claims):
    """Raise BrokenClaim with the first one of these claims that does not hold for the book."""
    for claim in claims:
        if not holds(book, claim):
            raise BrokenClaim(claim)

"""Equivalent books, settled settings and redundant operands."""

from laterthemes.books import Book, require_book
from laterthemes.claims import Claim
from laterthemes.errors import InvalidLayer, MismatchedBooks, NotAllowed
from laterthemes.rows import with_sealed
from laterthemes.verdicts import check_evidence, verdict


def pair_book(one, other, name):
    """The book `one` with the setting of this name sealed and with a new one, which has the definition in `other`."""
    require_matching(one, other)
    closed = Book(with_sealed(one.settings(), [name]))
    return Book(closed.settings() + [(new_name(one), closed.setting(name)[1], other.setting(name)[2])])


def compare(one, other):
    """("equivalent", evidence for each name), or ("different", a layer after which a setting has different values)."""
    require_matching(one, other)
    shown = []
    for name in one.names():
        word, found = verdict(pair_book(one, other, name), pair_claim(one, name))
        if word == "breaks":
            return ("different", found)
        shown.append(found)
    return ("equivalent", shown)


def check_equivalent(one, other, shown):
    """Whether any object is a list of evidence for each name that the books are equivalent."""
    require_matching(one, other)
    names = one.names()
    if not isinstance(shown, list) or len(shown) != len(names):
        return False
    return all([check_evidence(pair_book(one, other, name), pair_claim(one, name), evidence)
                for name, evidence in zip(names, shown)])


def check_different(one, other, layer):
    """Whether any object is an allowed layer after which some setting has different values in the two books."""
    require_matching(one, other)
    try:
        # What one of the books allows the other one allows, too.
        return (one + layer).evaluate() != (other + layer).evaluate()
    except (InvalidLayer, NotAllowed):
        return False


def settled(book):
    """The ascending list of the names of the settings that keep their values as long as no layer touches them."""
    require_book(book)
    return sorted([name for name in book.names() if is_settled(book, name)])


def freeze(book):
    """The book in which the settled settings, except choices, have their values as definitions."""
    require_book(book)
    return Book([frozen(setting, book[setting[0]]) if is_settled(book, setting[0]) else setting
                 for setting in book.settings()])


def redundant(book):
    """The ascending list of the places, each a tuple of a name and an index, of all operands that are redundant."""
    require_book(book)
    places = [(name, index) for name in book.names() for index in range(operand_count(book, name))]
    return sorted([(name, index) for name, index in places if is_redundant(book, name, index)])


def trim(book):
    """The book without redundant operands, which are taken out one after another."""
    require_book(book)
    left = book
    for name in book.names():
        # From the last one on, so that the others keep their places. One look at each is enough: an operand that is
        # not redundant stays so.
        for index in reversed(range(operand_count(book, name))):
            if is_redundant(left, name, index):
                left = without(left, name, index)
    return left


def require_matching(one, other):
    """Raise InvalidBook or MismatchedBooks unless these are two books that match."""
    require_book(one)
    require_book(other)
    if [outline(setting) for setting in one.settings()] != [outline(setting) for setting in other.settings()]:
        raise MismatchedBooks()


def outline(setting):
    """What matching books have in common: the name, the permission and, for "extend", the word of the definition."""
    name, permission, definition = setting
    return (name, permission, definition[0] if permission[0] == "extend" else None)


def new_name(book):
    """The first one of z, zz, zzz and so on that is no name of the book."""
    name = "z"
    while name in book:
        name = name + "z"
    return name


def pair_claim(book, name):
    """The claim for a pair book that the setting of this name and the new one are equal."""
    return Claim.equal(name, new_name(book))


def is_settled(book, name):
    """Whether the setting of this name keeps its value after every layer that does not touch it."""
    value = book[name]
    constant = Claim.at_least(name, 0, value) & Claim.at_most(name, 0, value)
    return verdict(Book(with_sealed(book.settings(), [name])), constant)[0] == "sure"


def frozen(setting, value):
    """A settled setting with this value as its definition, unless it is a choice."""
    name, permission, definition = setting
    if permission[0] == "choice":
        return setting
    if permission[0] == "extend":
        return (name, permission, (definition[0], [value]))
    return (name, permission, ("number", value))


def operand_count(book, name):
    """The number of the operands of the definition "max" or "min" of this setting, 0 for another definition."""
    definition = book.setting(name)[2]
    return len(definition[1]) if definition[0] in ("max", "min") else 0


def is_redundant(book, name, index):
    """Whether the book, without this operand of a definition "max" or "min", is equivalent."""
    if operand_count(book, name) < 2:
        return False
    return verdict(pair_book(book, without(book, name, index), name), pair_claim(book, name))[0] == "sure"


def without(book, name, index):
    """The book without this operand of a definition "max" or "min"."""
    return Book([reduced(setting, index) if setting[0] == name else setting for setting in book.settings()])


def reduced(setting, index):
    """The setting without this operand of its definition "max" or "min"."""
    name, permission, (word, operands) = setting
    return (name, permission, (word, operands[:index] + operands[index + 1:]))

"""What layers touch, and plain layers that bring about the same values."""

from laterthemes.books import require_book
from laterthemes.rows import settings_after
from laterthemes.worth import extreme, operand_values


def touched(book, layer):
    """The ascending list of the names for which the layer has a row "set" or "add"."""
    require_book(book)
    # Only for the errors of a layer that is not allowed.
    settings_after(book.settings(), layer)
    return sorted({row[1] for row in layer if row[0] != "seal"})


def plain(book, layer):
    """A layer that brings about the same values without references except in choices."""
    names = touched(book, layer)
    values = (book + layer).evaluate()
    return [plain_row(setting, layer, values) for setting in book.settings() if setting[0] in names]


def plain_row(setting, layer, values):
    """The one row for a touched setting, given the values after the layer."""
    name, permission, definition = setting
    rows = [row for row in layer if row[1] == name and row[0] != "seal"]
    if permission[0] == "free":
        return ("set", name, ("number", values[name]))
    if permission[0] == "choice":
        return rows[-1]
    added = operand_values([row[2] for row in rows], values)
    return ("add", name, extreme(definition[0], added))

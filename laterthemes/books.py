"""Books of settings, whose references are resolved late."""

from laterthemes.errors import InvalidBook, PossibleRing, UnknownName
from laterthemes.forms import are_settings, copied_setting, is_known
from laterthemes.mentions import all_mentions, mentioned, order_and_ring, ranks_of
from laterthemes.rows import settings_after
from laterthemes.worth import all_values


class Book:
    """Settings with permissions and definitions; a book never changes."""

    def __init__(self, settings):
        require_settings(settings)
        order, ring = order_and_ring(all_mentions(settings))
        if ring is not None:
            raise PossibleRing(ring)
        self._settings = [copied_setting(setting) for setting in settings]
        self._order = order
        self._values = all_values(settings, order)

    def names(self):
        """The list of the names, in the given order."""
        return list(self._values)

    def settings(self):
        """The list of the settings, in the given order."""
        return [copied_setting(setting) for setting in self._settings]

    def setting(self, name):
        """The setting of this name."""
        for setting in self._settings:
            if setting[0] == name:
                return copied_setting(setting)
        raise UnknownName(name)

    def evaluate(self):
        """A dictionary with the value for each name."""
        return dict(self._values)

    def ranks(self):
        """The least numbers by which each setting stands above all that it may mention."""
        return ranks_of(all_mentions(self._settings), self._order)

    def __getitem__(self, at):
        if not is_known(at, self._values):
            raise UnknownName(at)
        return self._values[at]

    def __contains__(self, x):
        return is_known(x, self._values)

    def __iter__(self):
        # Without this, Python would iterate by asking for the settings 0, 1, 2.
        raise TypeError("a book is not iterated over")

    def __len__(self):
        return len(self._settings)

    def __eq__(self, other):
        return isinstance(other, Book) and self._settings == other._settings

    def __add__(self, other):
        return Book(settings_after(self._settings, other))


def require_settings(settings):
    """Raise InvalidBook unless this is a list of settings of one book."""
    if not are_settings(settings):
        raise InvalidBook(settings)


def require_book(book):
    """Raise InvalidBook unless this is a book."""
    if not isinstance(book, Book):
        raise InvalidBook(book)


def ring_layer(settings):
    """None if no ring is possible, otherwise rows that make one, and the ring."""
    require_settings(settings)
    _, ring = order_and_ring(all_mentions(settings))
    if ring is None:
        return None
    table = {setting[0]: setting for setting in settings}
    # The name before the first one is the last one, which an index of -1 gives.
    steps = [(table[ring[at - 1]], ring[at]) for at in range(len(ring))]
    return ([row_to_mention(setting, name) for setting, name in steps
             if name not in mentioned(setting[2])], ring)


def row_to_mention(setting, name):
    """A row, allowed for a setting that may mention this name, after which it does."""
    if setting[1][0] == "extend":
        return ("add", setting[0], name)
    return ("set", setting[0], ("plus", name, 0))

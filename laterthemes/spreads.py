"""Which values and differences are possible, at all or together with values that break a claim."""

from laterthemes.books import require_book
from laterthemes.cases import all_alternatives
from laterthemes.claims import require_number, require_question
from laterthemes.errors import UnknownName
from laterthemes.facts import is_zero
from laterthemes.rows import open_names
from laterthemes.search import decided, fitted, layer_for, search_order, start_values
from laterthemes.stretches import left_over, united


def spread(book, one, other=0):
    """The stretches of the differences between two ends that are possible after allowed layers."""
    require_book(book)
    require_ends_of(book, one, other)
    # Without any fact, all possible values count.
    return differences(book, [[]], one, other)


def risk(book, claim, one, other=0):
    """The stretches of the differences that are possible together with values for which the claim does not hold."""
    require_question(book, claim)
    require_ends_of(book, one, other)
    return differences(book, claim.conflicts, one, other)


def layer_to(book, one, other, number):
    """An allowed layer after which the difference between two ends is this number, or None."""
    require_book(book)
    require_ends_of(book, one, other)
    require_number(number)
    settings = book.settings()
    wanted = [(one, other, number), (other, one, -number)]
    _, _, values = decided([wanted], all_alternatives(settings))
    return None if values is None else layer_for(settings, values, open_names(settings))


def safe_limits(book, claim, name):
    """The widest limits, within those of a free setting, with which the claim is sure."""
    require_question(book, claim)
    low, high = free_limits(book, name)
    return left_over(low, high, risk(book, claim, name))


def require_ends_of(book, one, other):
    """Raise UnknownName for the first one of these that is neither 0 nor a name of the book."""
    for end in (one, other):
        if not is_zero(end) and end not in book:
            raise UnknownName(end)


def free_limits(book, name):
    """The two limits of a free setting of this name; UnknownName is raised if there is none."""
    permission = book.setting(name)[1]
    if permission[0] != "free":
        raise UnknownName(name)
    return permission[1], permission[2]


def differences(book, conflicts, one, other):
    """The stretches of the differences between two ends for possible values with which a conflict is true."""
    options = all_alternatives(book.settings())
    found = []
    for conflict in conflicts:
        found.extend(fitting(conflict, start_values(options), search_order(options), options, (one, other)))
    return united(found)


def fitting(known, start, names, options, ends):
    """A stretch of differences for each choice of alternatives of these names that fits the known facts."""
    values, _ = fitted(known, start)
    if values is None:
        return []
    if not names:
        return [stretch_between(known, ends)]
    found = []
    for facts in options[names[0]]:
        found.extend(fitting(known + facts, values, names[1:], options, ends))
    return found


def stretch_between(facts, ends):
    """The stretch of the differences between the two ends that these facts, which fit one another, allow."""
    one, other = ends
    above = widest_gaps(facts, other)
    below = widest_gaps(facts, one)
    return (-below[other] if other in below else None, above.get(one))


def widest_gaps(facts, end):
    """By how much each end may exceed this one, for those ends for which the facts limit that."""
    gaps = {end: 0}
    steady = False
    while not steady:
        steady = True
        for one, other, k in facts:
            if other in gaps and (one not in gaps or gaps[one] > gaps[other] + k):
                gaps[one] = gaps[other] + k
                steady = False
    return gaps

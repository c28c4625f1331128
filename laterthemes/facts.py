"""Facts, which compare two ends, and conflicts, which are lists of facts.

A parameter `values` is a dictionary with the value for each name.
"""

from laterthemes.forms import is_name, is_whole
from laterthemes.worth import operand_value


def is_zero(x):
    """Whether this is the whole number 0."""
    return is_whole(x) and x == 0


def is_end(x):
    """Whether this is a name or the whole number 0."""
    return is_name(x) or is_zero(x)


def is_fact(x):
    """Whether this is a tuple of two ends and a whole number."""
    return isinstance(x, tuple) and len(x) == 3 and is_end(x[0]) and is_end(x[1]) and is_whole(x[2])


def is_conflict(x):
    """Whether this is a list of one or more facts."""
    return isinstance(x, list) and len(x) > 0 and all([is_fact(part) for part in x])


def are_conflicts(x):
    """Whether this is a list of conflicts, possibly empty."""
    return isinstance(x, list) and all([is_conflict(part) for part in x])


def is_true(fact, values):
    """Whether the first end is at most the second one plus the number."""
    one, other, k = fact
    # The end 0 is a number, whose value as an operand is 0, too.
    return operand_value(one, values) <= operand_value(other, values) + k


def are_true(facts, values):
    """Whether all of these facts are true."""
    return all([is_true(fact, values) for fact in facts])


def unknown_names(conflicts, names):
    """The list of the names in these conflicts, in their order, that are not among `names`."""
    ends = [end for conflict in conflicts for fact in conflict for end in fact[:2]]
    return [end for end in ends if isinstance(end, str) and end not in names]

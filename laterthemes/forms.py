"""The forms of names, numbers, definitions, permissions and settings.

A parameter `names` is a dictionary whose keys are the names of the book.
"""

LONGEST_NAME = 10


def is_whole(x):
    """Whether this is a whole number; True and False are none."""
    return isinstance(x, int) and not isinstance(x, bool)


def is_name(x):
    """Whether this is a string of 1 to 10 letters a to z."""
    if not isinstance(x, str) or len(x) > LONGEST_NAME:
        return False
    # isalpha and islower alone take letters that are not a to z, too.
    return x.isascii() and x.isalpha() and x.islower()


def is_known(x, names):
    """Whether this is a name of the book."""
    # Lists and dictionaries cannot be looked up in a dictionary.
    return isinstance(x, str) and x in names


def is_operand(x, names):
    """Whether this is a whole number or a name of the book."""
    return is_whole(x) or is_known(x, names)


def is_filled_tuple(x):
    """Whether this is a tuple that has a first item."""
    return isinstance(x, tuple) and len(x) > 0


def are_operands(x, names):
    """Whether this is a list of one or more operands."""
    return isinstance(x, list) and len(x) > 0 and all([is_operand(part, names) for part in x])


def is_definition(x, names):
    """Whether this is a definition for a book with these names."""
    if not is_filled_tuple(x):
        return False
    word = x[0]
    if word == "number":
        return len(x) == 2 and is_whole(x[1])
    if word == "plus":
        return len(x) == 3 and is_known(x[1], names) and is_whole(x[2])
    if word == "max" or word == "min":
        return len(x) == 2 and are_operands(x[1], names)
    return word == "if" and len(x) == 5 and all([is_operand(part, names) for part in x[1:]])


def is_limit(x):
    """Whether this is a whole number, or None for no limit."""
    return x is None or is_whole(x)


def are_limits(low, high):
    """Whether these are limits, the lower one at most the upper one."""
    if not is_limit(low) or not is_limit(high):
        return False
    return low is None or high is None or low <= high


def is_name_list(x, names):
    """Whether this is a list of different names of the book."""
    if not isinstance(x, list) or not all([is_known(part, names) for part in x]):
        return False
    return len(set(x)) == len(x)


def is_permission(x, names):
    """Whether this is a permission for a book with these names."""
    if not is_filled_tuple(x):
        return False
    word = x[0]
    if word == "sealed":
        return len(x) == 3 and are_limits(x[1], x[2])
    if word == "free":
        return len(x) == 4 and are_limits(x[1], x[2]) and is_name_list(x[3], names)
    if word == "choice":
        return len(x) == 2 and is_name_list(x[1], names) and len(x[1]) > 0
    return word == "extend" and len(x) == 2 and is_name_list(x[1], names)


def is_choice(definition, choices):
    """Whether this definition chooses one of a list of names."""
    return definition[0] == "plus" and definition[1] in choices and definition[2] == 0


def suits(permission, definition):
    """Whether a setting with this permission may have this definition at first."""
    if permission[0] == "choice":
        return is_choice(definition, permission[1])
    return permission[0] != "extend" or definition[0] in ("max", "min")


def is_setting(x, names):
    """Whether this tuple of three is a setting of a book with these names."""
    _, permission, definition = x
    if not is_permission(permission, names) or not is_definition(definition, names):
        return False
    return suits(permission, definition)


def is_named(x):
    """Whether this is a tuple of three that begins with a name."""
    return isinstance(x, tuple) and len(x) == 3 and is_name(x[0])


def are_settings(x):
    """Whether this is a list of settings of one book."""
    if not isinstance(x, list) or not all([is_named(part) for part in x]):
        return False
    names = names_of(x)
    return len(names) == len(x) and all([is_setting(part, names) for part in x])


def names_of(settings):
    """A dictionary whose keys are the names of these settings, in their order."""
    return {setting[0]: True for setting in settings}


def copied(form):
    """An equal permission or definition with a list of its own."""
    return tuple([list(part) if isinstance(part, list) else part for part in form])


def copied_setting(setting):
    """An equal setting with lists of its own."""
    name, permission, definition = setting
    return (name, copied(permission), copied(definition))

"""The values of operands, definitions and settings."""


def operand_value(operand, values):
    """The value of an operand, where the values of names are known."""
    return values[operand] if isinstance(operand, str) else operand


def operand_values(operands, values):
    """The list of the values of these operands."""
    return [operand_value(operand, values) for operand in operands]


def definition_value(definition, values):
    """The value of a definition, where the values of its names are known."""
    word = definition[0]
    if word == "number":
        return definition[1]
    if word == "plus":
        return values[definition[1]] + definition[2]
    if word == "max" or word == "min":
        return extreme(word, operand_values(definition[1], values))
    left, right, one, other = operand_values(definition[1:], values)
    return one if left >= right else other


def extreme(word, numbers):
    """The greatest of these numbers for "max", the least one for "min"."""
    return max(numbers) if word == "max" else min(numbers)


def limited(number, permission):
    """This number, brought into the limits if the permission has any."""
    if permission[0] != "sealed" and permission[0] != "free":
        return number
    low = permission[1]
    high = permission[2]
    if low is not None and number < low:
        return low
    if high is not None and number > high:
        return high
    return number


def all_values(settings, order):
    """A dictionary with the value of each setting; `order` has each name behind all it mentions."""
    table = {setting[0]: setting for setting in settings}
    values = {}
    for name in order:
        _, permission, definition = table[name]
        values[name] = limited(definition_value(definition, values), permission)
    return {name: values[name] for name in table}

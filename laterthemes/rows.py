"""The rows of layers: their form, what allows them and what they do."""

from laterthemes.errors import InvalidLayer, NotAllowed
from laterthemes.forms import copied, is_choice, is_definition, is_known, is_operand, is_whole, names_of
from laterthemes.mentions import mentioned


def is_row(x, names):
    """Whether this is a row of a layer for a book with these names."""
    if not isinstance(x, tuple) or len(x) < 2 or not is_known(x[1], names):
        return False
    word = x[0]
    if word == "set":
        return len(x) == 3 and is_definition(x[2], names)
    if word == "add":
        return len(x) == 3 and is_operand(x[2], names)
    return word == "seal" and len(x) == 2


def is_layer(x, names):
    """Whether this is a layer for a book with these names."""
    return isinstance(x, list) and all([is_row(part, names) for part in x])


def allows(permission, row):
    """Whether this permission of the row's setting allows the row."""
    kind = permission[0]
    if row[0] == "seal":
        return kind != "sealed"
    if row[0] == "add":
        return kind == "extend" and (is_whole(row[2]) or row[2] in permission[1])
    if kind == "free":
        return all([name in permission[3] for name in mentioned(row[2])])
    return kind == "choice" and is_choice(row[2], permission[1])


def sealed(permission):
    """The permission that an open setting with this permission gets when it is sealed."""
    if permission[0] == "free":
        return ("sealed", permission[1], permission[2])
    return ("sealed", None, None)


def open_names(settings):
    """The list of the names of the settings that are not sealed."""
    return [name for name, permission, _ in settings if permission[0] != "sealed"]


def changed(setting, row):
    """The setting after a row that its permission allows."""
    name, permission, definition = setting
    if row[0] == "seal":
        return (name, sealed(permission), definition)
    if row[0] == "set":
        return (name, permission, row[2])
    return (name, permission, (definition[0], definition[1] + [row[2]]))


def with_sealed(settings, names):
    """The settings, the open ones of these names sealed."""
    return [changed(setting, ("seal", setting[0])) if setting[0] in names and setting[1][0] != "sealed" else setting
            for setting in settings]


def settings_after(settings, layer):
    """The settings after all rows of the layer, or the error that the layer causes."""
    if not is_layer(layer, names_of(settings)):
        raise InvalidLayer(layer)
    table = {}
    for setting in settings:
        table[setting[0]] = setting
    for index, row in enumerate(layer):
        name = row[1]
        if not allows(table[name][1], row):
            raise NotAllowed(index)
        table[name] = changed(table[name], row)
    return list(table.values())


def row_to_assign(setting, worth):
    """The row that gives a setting a number, the value of another setting, or a definition, as far as it is allowed."""
    name, permission, _ = setting
    if permission[0] == "extend":
        return ("add", name, worth)
    if is_whole(worth):
        return ("set", name, ("number", worth))
    if isinstance(worth, str):
        return ("set", name, ("plus", worth, 0))
    return ("set", name, worth)


def copied_layer(layer):
    """An equal layer with lists of its own."""
    return [("set", row[1], copied(row[2])) if row[0] == "set" else row for row in layer]

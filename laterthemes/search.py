"""The search for values for which a claim does not hold, or for what shows that there are none.

A parameter `options` is a dictionary with the alternatives of each setting.
"""


def ring_through(end, reasons):
    """The ring of facts that leads back to this end, or None; `reasons` has a fact for each end that was lowered."""
    ring = [reasons[end]]
    at = ring[0][1]
    while at != end:
        if at not in reasons:
            return None
        ring.append(reasons[at])
        at = reasons[at][1]
    return ring


def fitted(facts, start):
    """Values, none above those at the start, for which all facts are true, and None; or None and a ring of facts."""
    values = dict(start)
    reasons = {}
    steady = False
    while not steady:
        steady = True
        for fact in facts:
            one, other, k = fact
            if values[one] > values[other] + k:
                values[one] = values[other] + k
                reasons[one] = fact
                steady = False
                # Only a ring whose numbers sum to less than 0 lowers an end because of itself.
                ring = ring_through(one, reasons)
                if ring is not None:
                    return None, ring
    return values, None


def joined(known, facts, name):
    """The known facts and those of an alternative, each with the name by which it is known first."""
    table = {fact: known[fact] for fact in known}
    for fact in facts:
        if fact not in table:
            table[fact] = name
    return table


def searched(known, start, names, options):
    """A tree, what it needs, and None; or None, None and values that fit the facts and an alternative of each name.

    `known` has for each fact the name of the setting by which it is known, None for the conflict. What a tree needs is
    a dictionary whose keys are such names: those of its own cases, and those of the cases that have to stand around it.
    """
    values, ring = fitted(known, start)
    if ring is not None:
        return ("ring", ring), {known[fact]: True for fact in ring}, None
    if not names:
        return None, None, values
    name = names[0]
    trees = []
    needed = {}
    for facts in options[name]:
        tree, used, found = searched(joined(known, facts, name), values, names[1:], options)
        if tree is None or name not in used:
            # There are values; or the tree shows as well that there are none without a case of this setting.
            return tree, used, found
        trees.append(tree)
        needed.update(used)
    return ("case", name, trees), needed, None


def search_order(options):
    """The list of the names, those with few alternatives first, so that there are fewer cases in all."""
    return [name for _, name in sorted([(len(options[name]), name) for name in options])]


def start_values(options):
    """The values with which a search begins, a number for the end 0 among them."""
    return {name: 0 for name in [0] + list(options)}


def decided(conflicts, options):
    """Evidence, what it needs, and None; or None, None and values for which all facts of a conflict are true."""
    start = start_values(options)
    order = search_order(options)
    evidence = []
    needed = {}
    for conflict in conflicts:
        tree, used, values = searched(joined({}, conflict, None), start, order, options)
        if tree is None:
            # Only differences count for the facts, and the value of the end 0 is 0.
            return None, None, {name: values[name] - values[0] for name in options}
        evidence.append(tree)
        needed.update(used)
    return evidence, needed, None


def row_for(setting, values):
    """A row that an open setting allows, after which it has its value among these values."""
    name, permission, _ = setting
    if permission[0] == "free":
        return ("set", name, ("number", values[name]))
    if permission[0] == "extend":
        return ("add", name, values[name])
    fitting = [other for other in permission[1] if values[other] == values[name]]
    return ("set", name, ("plus", fitting[0], 0))


def layer_for(settings, values, names):
    """A layer that touches just the settings of these names and brings about these values."""
    return [row_for(setting, values) for setting in settings if setting[0] in names]

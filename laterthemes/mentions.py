"""Which settings may mention which ones, and in which order that is possible."""


def mentioned(definition):
    """The list of the names in a definition, each as often as it stands there."""
    word = definition[0]
    operands = definition[1] if word == "max" or word == "min" else definition[1:]
    return [operand for operand in operands if isinstance(operand, str)]


def permitted(permission):
    """The list of the names in a permission."""
    return [] if permission[0] == "sealed" else list(permission[-1])


def all_mentions(settings):
    """A dictionary with the list of all names that each setting may mention."""
    return {name: mentioned(definition) + permitted(permission)
            for name, permission, definition in settings}


def order_and_ring(mentions):
    """The names, each behind all that it may mention, and None; or else some names and a ring."""
    order = []
    # A name is a key from the first visit on; its value is whether all behind it is done.
    done = {}
    for start in mentions:
        # Stacks instead of recursion, because a chain of settings may be long. Each is a tuple of its top and the
        # rest, not a list: operators run this function, and must not call what a class may have as a method, like pop.
        path = None
        todo = ((start, False), None)
        while todo is not None:
            (name, leaving), todo = todo
            if leaving:
                order.append(name)
                done[name] = True
                path = path[1]
            elif name not in done:
                done[name] = False
                path = (name, path)
                todo = ((name, True), todo)
                for other in mentions[name]:
                    todo = ((other, False), todo)
            elif not done[name]:
                return order, path_from(name, path)
    return order, None


def path_from(name, path):
    """The list of the names of a path from this one on; the path is a tuple of its last name and the rest."""
    back = [path[0]]
    while back[-1] != name:
        path = path[1]
        back.append(path[0])
    return back[::-1]


def ranks_of(mentions, order):
    """The least ranks by which each setting stands above all that it may mention."""
    ranks = {}
    for name in order:
        ranks[name] = max([ranks[other] + 1 for other in mentions[name]], default=0)
    return {name: ranks[name] for name in mentions}

"""Which settings may mention which ones, and in which order that is possible."""


def mentioned(definition):
    """The list of the names in a definition, each as often as it stands there."""
    word = definition[0]
    operands = definition[1] if word == "max" or word == "min" else definition[1:]
    return [operand for operand in operands if isinstance(operand, str)]


def permitted(permission):
    """The list of the names in a permission."""
    return [] if permission[0] == "sealed" else list(permission[-1])


def all_mentions(settings):
    """A dictionary with the list of all names that each setting may mention."""
    return {name: mentioned(definition) + permitted(permission)
            for name, permission, definition in settings}


def order_and_ring(mentions):
    """The names, each behind all that it may mention, and None; or else some names and a ring."""
    order = []
    # A name is a key from the first visit on; its value is whether all behind it is done.
    done = {}
    for start in mentions:
        path = []
        # A stack instead of recursion, because a chain of settings may be long.
        todo = [(start, False)]
        while todo:
            name, leaving = todo.pop()
            if leaving:
                order.append(path.pop())
                done[name] = True
            elif name not in done:
                done[name] = False
                path.append(name)
                todo.append((name, True))
                todo.extend([(other, False) for other in mentions[name]])
            elif not done[name]:
                return order, path_from(name, path)
    return order, None


def path_from(name, path):
    """The part of a path of different names that begins with this one."""
    # Not by the method index: an error has an attribute of this name, and operators run this function.
    starts = [at for at, other in enumerate(path) if other == name]
    return path[starts[0]:]


def ranks_of(mentions, order):
    """The least ranks by which each setting stands above all that it may mention."""
    ranks = {}
    for name in order:
        ranks[name] = max([ranks[other] + 1 for other in mentions[name]], default=0)
    return {name: ranks[name] for name in mentions}

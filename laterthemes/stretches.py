"""Stretches of whole numbers: tuples of the least and the greatest one, each None if there is none."""


def place_of(stretch):
    """What stretches are ordered by: where they begin."""
    return (0, 0) if stretch[0] is None else (1, stretch[0])


def goes_on(high, low):
    """Whether a stretch that begins at `low`, or further left, leaves no number out behind one up to `high`."""
    return high is None or low is None or low <= high + 1


def farther(one, other):
    """The greater one of two upper limits."""
    return None if one is None or other is None else max(one, other)


def united(stretches):
    """The ascending list of the stretches that these make up, with a number left out between each two."""
    found = []
    for low, high in sorted(stretches, key=place_of):
        if found and goes_on(found[-1][1], low):
            found[-1] = (found[-1][0], farther(found[-1][1], high))
        else:
            found.append((low, high))
    return found


def left_over(low, high, stretches):
    """The stretches from `low` to `high` that remain without these ascending ones, all of which lie within."""
    found = []
    start = low
    for first, last in stretches:
        if first is not None and (start is None or start < first):
            found.append((start, first - 1))
        if last is None:
            return found
        start = last + 1
    if start is None or high is None or start <= high:
        found.append((start, high))
    return found

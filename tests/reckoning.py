"""A second, plain model of claims, alternatives, evidence and layers, which shares no code with the package."""

import itertools

from tests.support import model_after, model_values

NUMBERS = range(-3, 4)


def model_end(end, values):
    return 0 if end == 0 else values[end]


def model_true(facts, values):
    return all(model_end(x, values) - model_end(y, values) <= k for x, y, k in facts)


def model_holds(conflicts, values):
    return not any(model_true(conflict, values) for conflict in conflicts)


def model_breaks(settings, conflicts, layer):
    """Whether the layer, of rows of the form of point 20, is allowed and the claim does not hold after it."""
    after = model_after(settings, layer)
    return isinstance(after, list) and not model_holds(conflicts, model_values(after))


def model_sealed(settings, names):
    return model_after(settings, [("seal", name) for name in names])


def open_names(settings):
    return [name for name, permission, _ in settings if permission[0] != "sealed"]


def at_most(left, right):
    """The fact that an operand plus a number is at most another operand plus a number."""
    (p, a), (q, b) = left, right
    if not isinstance(p, str):
        p, a = 0, p + a
    if not isinstance(q, str):
        q, b = 0, q + b
    return (p, q, b - a)


def model_cases(definition):
    """Tuples of a list of conditions and a result, which is an operand and a number."""
    word, parts = definition[0], definition[1:]
    if word == "plus":
        return [([], (parts[0], parts[1]))]
    if word == "if":
        left, right, one, other = parts
        return [([at_most((right, 0), (left, 0))], (one, 0)), ([at_most((left, 1), (right, 0))], (other, 0))]
    cases = []
    for at, mine in enumerate(parts[0]):
        rest = parts[0][:at] + parts[0][at + 1:]
        pairs = [((other, 0), (mine, 0)) if word == "max" else ((mine, 0), (other, 0)) for other in rest]
        cases.append(([at_most(*pair) for pair in pairs], (mine, 0)))
    return cases


def model_alternatives(settings, name):
    _, permission, definition = {setting[0]: setting for setting in settings}[name]
    kind = permission[0]
    s = name
    if kind == "free":
        _, low, high, _ = permission
        return [([] if low is None else [(0, s, -low)]) + ([] if high is None else [(s, 0, high)])]
    if kind == "choice":
        return [[(s, x, 0), (x, s, 0)] for x in permission[1]]
    if kind == "extend":
        if definition[0] == "max":
            return [[at_most((x, 0), (s, 0)) for x in definition[1]]]
        return [[at_most((s, 0), (x, 0)) for x in definition[1]]]
    _, low, high = permission
    if definition[0] == "number":
        c = model_values([(s, permission, definition)])[s]
        return [[(s, 0, c), (0, s, -c)]]
    found = []
    for conditions, (x, k) in model_cases(definition):
        inside = [] if low is None else [at_most((0, low), (x, k))]
        inside += [] if high is None else [at_most((x, k), (0, high))]
        found.append(conditions + inside + [at_most((s, 0), (x, k)), at_most((x, k), (s, 0))])
        if low is not None:
            found.append(conditions + [at_most((x, k + 1), (0, low)), (s, 0, low), (0, s, -low)])
        if high is not None:
            found.append(conditions + [at_most((0, high + 1), (x, k)), (s, 0, high), (0, s, -high)])
    return found


def model_size(settings):
    """The size of point 3."""
    size = 1
    for setting in settings:
        name = setting[0]
        closed = model_sealed(settings, [name]) if setting[1][0] != "sealed" else settings
        size *= max(len(model_alternatives(settings, name)), len(model_alternatives(closed, name)))
    return size


def is_plain_fact(x):
    if type(x) is not tuple or len(x) != 3 or type(x[2]) is not int:
        return False
    return all(type(end) is str or (type(end) is int and end == 0) for end in x[:2])


def model_shows(tree, known, settings):
    """Whether a tree is right, where `known` is the list of the facts that are known there."""
    if type(tree) is not tuple or not tree or type(tree[0]) is not str:
        return False
    if tree[0] == "ring" and len(tree) == 2 and type(tree[1]) is list and tree[1]:
        ring = tree[1]
        if not all(is_plain_fact(fact) and fact in known for fact in ring):
            return False
        ends = [fact[0] for fact in ring]
        return [fact[1] for fact in ring] == ends[1:] + ends[:1] and sum(fact[2] for fact in ring) < 0
    if tree[0] != "case" or len(tree) != 3 or type(tree[1]) is not str or type(tree[2]) is not list:
        return False
    if tree[1] not in [setting[0] for setting in settings]:
        return False
    options = model_alternatives(settings, tree[1])
    return len(options) == len(tree[2]) and all(
        model_shows(part, known + facts, settings) for part, facts in zip(tree[2], options))


def model_is_evidence(settings, conflicts, evidence):
    if type(evidence) is not list or len(evidence) != len(conflicts):
        return False
    return all(model_shows(tree, list(conflict), settings) for tree, conflict in zip(evidence, conflicts))


def is_tidy(tree, around=()):
    """Whether no case is within another case of the same name, and no ring has two equal facts."""
    if tree[0] == "ring":
        return len(set(tree[1])) == len(tree[1])
    return tree[1] not in around and all(is_tidy(part, around + (tree[1],)) for part in tree[2])


def trees_in(tree):
    return 1 + (sum(map(trees_in, tree[2])) if tree[0] == "case" else 0)


def plain_rows(setting, numbers):
    """Rows for an open setting, each with a plain number or a choice, and None for no row."""
    name, permission, _ = setting
    if permission[0] == "free":
        return [None] + [("set", name, ("number", k)) for k in numbers]
    if permission[0] == "choice":
        return [None] + [("set", name, ("plus", other, 0)) for other in permission[1]]
    return [None] + [("add", name, k) for k in numbers]


def plain_layers(settings, numbers=NUMBERS):
    """All layers of at most one plain row for each open setting."""
    rows = [plain_rows(setting, numbers) for setting in settings if setting[1][0] != "sealed"]
    for chosen in itertools.product(*rows):
        yield [row for row in chosen if row is not None]


def subsets(names):
    """All sets of these names as ascending tuples, by their number and then by the names."""
    for count in range(len(names) + 1):
        yield from itertools.combinations(sorted(names), count)


def tightened(gaps, facts, ends):
    """The greatest differences `gaps[x, y]` of x minus y, made right for more facts; None if they cannot all be true."""
    gaps = dict(gaps)
    for x, y, k in facts:
        if gaps.get((y, x), -k) + k < 0:
            return None
        for one, other in itertools.product(ends, ends):
            if (one, x) in gaps and (y, other) in gaps:
                gap = gaps[one, x] + k + gaps[y, other]
                gaps[one, other] = min(gap, gaps.get((one, other), gap))
    return gaps


def model_possible(gaps, options, ends):
    """The greatest differences for each choice of one alternative from each of the options."""
    if not options:
        return [gaps]
    parts = [tightened(gaps, facts, ends) for facts in options[0]]
    return [row for part in parts if part is not None for row in model_possible(part, options[1:], ends)]


def model_stretches(settings, conflicts, one, other):
    """The stretches of one minus other for possible values with which all facts of a conflict are true."""
    ends = [0] + [setting[0] for setting in settings]
    options = [model_alternatives(settings, name) for name in ends[1:]]
    start = {(end, end): 0 for end in ends}
    found = [row for conflict in conflicts for row in model_possible(start, [[conflict]] + options, ends)]
    # Pieces that overlap, or of which one ends beside the other, are put together until none are left.
    pieces = {(None if (other, one) not in row else -row[other, one], row.get((one, other))) for row in found}
    pairs = True
    while pairs:
        pairs = [(p, q) for p in pieces for q in pieces if p != q and within_reach(p, q) and within_reach(q, p)]
        if pairs:
            p, q = pairs[0]
            lows, highs = [p[0], q[0]], [p[1], q[1]]
            pieces = pieces - {p, q} | {(None if None in lows else min(lows), None if None in highs else max(highs))}
    return sorted(pieces, key=lambda piece: (piece[0] is not None, piece[0] or 0))


def within_reach(p, q):
    """Whether q does not begin more than one number behind the end of p."""
    return p[1] is None or q[0] is None or q[0] <= p[1] + 1


def is_stretches(x):
    """Whether this is an ascending list of stretches, with a number left out between each two."""
    if type(x) is not list or any(type(part) is not tuple or len(part) != 2 for part in x):
        return False
    if any(type(k) is not int and k is not None for part in x for k in part):
        return False
    inner = [k for part in x for k in part][1:-1]
    return (None not in inner and all(low <= high for low, high in x if low is not None and high is not None)
            and all(inner[at] + 1 < inner[at + 1] for at in range(0, len(inner), 2)))


def left_by(low, high, stretches):
    """What stretches leave of the numbers from low to high, by looking at each number beside an end of them."""
    def free(number):
        return all((first is not None and number < first) or (last is not None and number > last) for first, last in stretches)

    def inside(number):
        return (low is None or low <= number) and (high is None or number <= high)

    if not stretches:
        return [(low, high)]
    starts = [None] if low is None and stretches[0][0] is not None else [low] if low is not None and free(low) else []
    starts += [last + 1 for _, last in stretches if last is not None and inside(last + 1)]
    ends = [first - 1 for first, _ in stretches if first is not None and inside(first - 1)]
    ends += [None] if high is None and stretches[-1][1] is not None else [high] if high is not None and free(high) else []
    return list(zip(starts, ends, strict=True))

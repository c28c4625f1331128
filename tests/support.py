"""What several tests need: the theme of the document, odd objects, and a second, plain model of books.

The model shares no code with the package: it follows the document by recursion and by trying everything.
"""

import random

from laterthemes.books import Book
from laterthemes.claims import Claim

THEME = [
    ("ground", ("free", 0, 100, []), ("number", 95)),
    ("text", ("sealed", None, None), ("if", "ground", 50, 10, 90)),
    ("link", ("free", 0, 100, ["text"]), ("plus", "text", 20)),
    ("edge", ("extend", ["link"]), ("max", ["text", 30])),
]


def theme():
    return Book(THEME)


def odd_objects():
    """Objects of all kinds, none of which is a setting, a row, a permission or a definition."""
    return [
        None, True, False, 0, 1, -7, 10 ** 39, "", "ground", "seal", "no such", [], (), {}, [None], (None,),
        ["ground"], ("ground",), ("seal",), {"ground": 1}, {0: []}, [[]], [()], ((),), Book([]), theme(), (theme(),),
        Claim([]), Claim([[("ground", 0, 1)]]), [Claim([])], [[("ground", 0, 1)]], ("ground", 0, 1), ("case", "ground", []),
        ("ring", []), {"conflicts": []},
    ]


def many_names(count):
    """This many different names, in ascending order."""
    letters = "abcdefghijklmnopqrstuvwxyz"
    return [letters[k // 676] + letters[k // 26 % 26] + letters[k % 26] for k in range(count)]


def model_mentions(definition):
    if definition[0] in ("max", "min"):
        return [part for part in definition[1] if isinstance(part, str)]
    return [part for part in definition[1:] if isinstance(part, str)]


def model_may_mention(setting):
    listed = [] if setting[1][0] == "sealed" else setting[1][-1]
    return set(model_mentions(setting[2])) | set(listed)


def model_has_ring(settings):
    reach = {setting[0]: model_may_mention(setting) for setting in settings}
    for _ in settings:
        reach = {name: names.union(*[reach[other] for other in names]) for name, names in reach.items()}
    return any(name in names for name, names in reach.items())


def model_rank(settings, name):
    setting = {setting[0]: setting for setting in settings}[name]
    return max([model_rank(settings, other) + 1 for other in model_may_mention(setting)], default=0)


def model_value(settings, name):
    _, permission, definition = {setting[0]: setting for setting in settings}[name]

    def of(operand):
        return model_value(settings, operand) if isinstance(operand, str) else operand

    word = definition[0]
    if word == "number":
        result = definition[1]
    elif word == "plus":
        result = of(definition[1]) + definition[2]
    elif word == "max":
        result = sorted(map(of, definition[1]))[-1]
    elif word == "min":
        result = sorted(map(of, definition[1]))[0]
    else:
        result = of(definition[3]) if of(definition[1]) >= of(definition[2]) else of(definition[4])
    if permission[0] in ("sealed", "free"):
        _, low, high = permission[:3]
        if low is not None:
            result = max(low, result)
        if high is not None:
            result = min(high, result)
    return result


def model_values(settings):
    return {setting[0]: model_value(settings, setting[0]) for setting in settings}


def model_allows(permission, row):
    if row[0] == "seal":
        return permission[0] != "sealed"
    if row[0] == "add":
        return permission[0] == "extend" and (isinstance(row[2], int) or row[2] in permission[1])
    if permission[0] == "free":
        return set(model_mentions(row[2])) <= set(permission[3])
    return permission[0] == "choice" and row[2] in [("plus", name, 0) for name in permission[1]]


def model_after(settings, layer):
    """The settings after the layer, or the position of the first row that is not allowed."""
    result = list(settings)
    for index, row in enumerate(layer):
        at = [setting[0] for setting in result].index(row[1])
        name, permission, definition = result[at]
        if not model_allows(permission, row):
            return index
        if row[0] == "set":
            definition = row[2]
        elif row[0] == "add":
            definition = (definition[0], list(definition[1]) + [row[2]])
        elif permission[0] == "free":
            permission = ("sealed",) + permission[1:3]
        else:
            permission = ("sealed", None, None)
        result[at] = (name, permission, definition)
    return result


class Maker:
    """Makes settings and layers, the same ones in each run of the tests."""

    def __init__(self, seed):
        self.dice = random.Random(seed)

    def number(self):
        return self.dice.choice([0, 1, -1, self.dice.randint(-9, 9), self.dice.randint(-60, 60)])

    def limits(self):
        low, high = sorted([self.number(), self.number()])
        return self.dice.choice([low, None, low]), self.dice.choice([high, None, high])

    def some(self, names):
        return self.dice.sample(names, self.dice.randint(0, len(names)))

    def operand(self, names):
        return self.dice.choice([self.number()] + list(names))

    def operands(self, names):
        return [self.operand(names) for _ in range(self.dice.randint(1, 4))]

    def definition(self, names):
        word = self.dice.choice(["number", "plus", "max", "min", "if"])
        if word == "plus" and names:
            return ("plus", self.dice.choice(names), self.number())
        if word in ("max", "min"):
            return (word, self.operands(names))
        if word == "if":
            return ("if",) + tuple(self.operand(names) for _ in range(4))
        return ("number", self.number())

    def setting(self, name, names):
        """A setting that may mention only these names."""
        word = self.dice.choice(["sealed", "free", "choice", "extend"])
        if word == "choice" and names:
            listed = self.some(names) or names[:1]
            return (name, ("choice", listed), ("plus", self.dice.choice(listed), 0))
        if word == "extend":
            return (name, ("extend", self.some(names)), (self.dice.choice(["max", "min"]), self.operands(names)))
        if word == "sealed":
            return (name, ("sealed",) + self.limits(), self.definition(names))
        return (name, ("free",) + self.limits() + (self.some(names),), self.definition(names))

    def settings(self):
        """Settings without a possible ring, in any order."""
        names = self.dice.sample(many_names(30), self.dice.randint(0, 8))
        settings = [self.setting(name, names[:at]) for at, name in enumerate(names)]
        self.dice.shuffle(settings)
        return settings

    def loose_settings(self):
        """Settings in which rings are possible or not."""
        names = self.dice.sample(many_names(30), self.dice.randint(1, 6))
        return [self.setting(name, self.dice.sample(names, min(len(names), 2))) for name in names]

    def row(self, settings):
        """A row of the form that the document asks for, allowed or not."""
        name, permission, _ = self.dice.choice(settings)
        names = [setting[0] for setting in settings]
        word = self.dice.choice(["set", "set", "add", "add", "seal"])
        if word == "seal":
            return ("seal", name)
        if word == "add":
            return ("add", name, self.operand(names))
        if permission[0] == "choice":
            return ("set", name, ("plus", self.dice.choice(names), 0))
        return ("set", name, self.definition(self.some(names)))

    def layer(self, settings):
        return [self.row(settings) for _ in range(self.dice.randint(0, 8))] if settings else []

    def end(self, names):
        return self.dice.choice(list(names) * 3 + [0])

    def claim(self, names, conflicts=3, facts=3):
        """A claim over these names with at most so many conflicts and facts in each of them."""
        return Claim([[(self.end(names), self.end(names), self.number()) for _ in range(self.dice.randint(1, facts))]
                      for _ in range(self.dice.randint(0, conflicts))])

    def allowed_layer(self, settings):
        layer = []
        for _ in range(self.dice.randint(0, 30) if settings else 0):
            row = self.row(settings)
            if isinstance(model_after(settings, layer + [row]), list):
                layer.append(row)
        return layer


class SmallMaker(Maker):
    """Makes books of small numbers, so that trying a few numbers is enough."""

    def number(self):
        return self.dice.randint(-1, 2)

    def small_settings(self, count):
        names = "abcdefgh"[:count]
        return [self.setting(name, list(names[:at])) for at, name in enumerate(names)]

"""Parts of settings and rows: those that fit, and those in which one thing does not fit."""

from laterthemes.books import Book
from tests.support import odd_objects

NOT_WHOLE = [None, True, False, "", "b", "1", [], [1], (), (1,), {}, {1: 1}, Book([])]
NOT_NAMES = ["", "A", "aB", "a1", "1", "a b", " a", "a ", "a\n", "a_", "a-b", "abcdefghijk", "abcdefghijklmnopqrstuvwxyz",
             "\u00e9", None, True, False, 0, 1, ["a"], [], ("a",), (), {}, {"a": 1}, Book([])]
NOT_KNOWN = ["c", "bb", "A", "B", "", "max", None, True, False, 0, 1, ["b"], [], ("b",), (), {}, {"b": 1}, Book([])]
NOT_OPERANDS = [operand for operand in NOT_KNOWN if isinstance(operand, bool) or not isinstance(operand, int)]
NOT_LISTS = [(), ("b",), (1, 2), None, True, 0, 1, "", "b", "ab", {}, {"b": 1}, Book([])]
GOOD_DEFINITIONS = [
    ("number", 0), ("number", -5), ("number", 10 ** 39), ("number", -(10 ** 40) + 1), ("plus", "b", 0),
    ("plus", "b", -(10 ** 39)), ("max", [1]), ("max", ["b"]), ("max", [1, "b", 1, "b"]), ("min", ["b", "b"]),
    ("min", [-3, 10 ** 39]), ("if", 1, 2, 3, 4), ("if", "b", "b", "b", "b"), ("if", "b", 0, -1, "b"),
    ("max", list(range(6))), ("min", list(range(100))),
]


def bad_definitions():
    """Definitions for a book with the names a and b, each with one thing that does not fit."""
    yield from odd_objects()
    yield from [("number",), ("number", 1, 2), ["number", 1], ("Number", 1), ("numbers", 1), ("", 1), (1, "number"),
                (None, 1), (["number"], 1), (("number",), 1), ({}, 1), (Book([]), 1), (True, 1), "number", {"number": 1}]
    yield from [("plus",), ("plus", "b"), ("plus", "b", 0, 0), ["plus", "b", 0], ("plus", 0, "b"), ("Plus", "b", 0),
                ("plus", ["b", 0]), ("plus", 3, 0)]
    yield from [("if",), ("if", 1, 2, 3), ("if", 1, 2, 3, 4, 5), ["if", 1, 2, 3, 4], ("if", [1, 2, 3, 4]),
                ("if", (1, 2, 3, 4)), ("IF", 1, 2, 3, 4), ("else", 1, 2, 3, 4)]
    for number in NOT_WHOLE:
        yield ("number", number)
        yield ("plus", "b", number)
    for name in NOT_KNOWN:
        yield ("plus", name, 0)
    for word in ("max", "min"):
        yield from [(word,), (word, []), (word, [1], [2]), (word, 1, 2), (word, "b", "b"), [word, [1]], (word, [1], None)]
        for item in NOT_LISTS:
            yield (word, item)
        for operand in NOT_OPERANDS:
            yield from [(word, [operand]), (word, [1, operand]), (word, [operand, "b"]), (word, [1, operand, 2])]
    for operand in NOT_OPERANDS:
        for at in range(4):
            yield ("if",) + tuple(operand if k == at else "b" for k in range(4))


def bad_limits():
    yield from [(1, 0), (0, -1), (10 ** 39, 10 ** 39 - 1), (-4, -5)]
    for number in NOT_WHOLE[1:]:
        yield from [(number, None), (None, number), (number, 5), (-5, number), (number, number)]


def bad_name_lists():
    """Objects that are no list of different names of a book with the names a and b."""
    yield from NOT_LISTS
    yield from [["b", "b"], ["b", "b", "b"], [["b"]], [("b",)]]
    for name in NOT_KNOWN:
        yield [name]
        yield ["b", name]
        yield [name, "b"]


def bad_permissions():
    """Permissions for a book with the names a and b, each with one thing that does not fit."""
    yield from odd_objects()
    yield from [("sealed",), ("sealed", None), ("sealed", 0), ("sealed", None, None, None), ("sealed", None, None, []),
                ["sealed", None, None], ("Sealed", None, None), ("seal", None, None), ("open", None, None),
                (None, None, None), (["sealed"], None, None), ({}, None, None), (Book([]), None, None),
                ("sealed", (None, None)), ("sealed", [0, 1])]
    yield from [("free",), ("free", None, None), ("free", []), ("free", [], None, None), ("free", None, None, [], []),
                ["free", None, None, []], ("Free", None, None, []), ("free", None, None, "b", "b")]
    yield from [("choice",), ("choice", []), ("choice", ["b"], ["b"]), ("choice", "b", "b"), ["choice", ["b"]],
                ("Choice", ["b"]), ("choice", None, None, ["b"])]
    yield from [("extend",), ("extend", [], []), ("extend", "b", "b"), ["extend", []], ("Extend", []),
                ("extend", None, None, []), ("max", [])]
    for low, high in bad_limits():
        yield ("sealed", low, high)
        yield ("free", low, high, [])
    for names in bad_name_lists():
        yield ("free", None, None, names)
        yield ("choice", names)
        yield ("extend", names)

"""Points 20 to 22: the form of layers, what allows their rows, what they do, `touched` and `plain`."""

import copy
import unittest

from laterthemes.books import Book
from laterthemes.errors import InvalidLayer, NotAllowed, ThemeError
from laterthemes.layers import plain, touched
from tests.samples import GOOD_DEFINITIONS, NOT_KNOWN, NOT_LISTS, NOT_OPERANDS, NOT_WHOLE, bad_definitions
from tests.support import Maker, model_after, model_values, odd_objects, theme

BASE = [
    ("a", ("free", -50, 50, ["b", "d"]), ("plus", "c", 1)),
    ("b", ("choice", ["c", "d"]), ("plus", "c", 0)),
    ("c", ("extend", ["d", "e"]), ("max", ["e", 2])),
    ("d", ("extend", ["e"]), ("min", ["e", 7])),
    ("e", ("sealed", 0, 9), ("number", 5)),
    ("f", ("free", None, None, []), ("number", 1)),
]
NAMES = ["a", "b", "c", "d", "e", "f"]
CALLS = [lambda book, layer: book + layer, touched, plain]


def base():
    return Book(BASE)


class Example(unittest.TestCase):
    def test_example_of_section_4(self):
        from laterthemes.books import Book
        theme = Book([("ground", ("free", 0, 100, []), ("number", 95)), ("text", ("sealed", None, None), ("if", "ground", 50, 10, 90)), ("link", ("free", 0, 100, ["text"]), ("plus", "text", 20)), ("edge", ("extend", ["link"]), ("max", ["text", 30]))])
        from laterthemes.layers import plain, touched
        night = [("set", "ground", ("number", 20)), ("add", "edge", "link"), ("add", "edge", 7)]
        self.assertEqual(
            [(theme + night)["link"], (theme + night)["edge"], plain(theme, night), touched(theme, night)],
            [100, 100, [('set', 'ground', ('number', 20)), ('add', 'edge', 100)], ['edge', 'ground']])


class Invalid(unittest.TestCase):
    """InvalidLayer with the very argument, before NotAllowed."""

    def rejects(self, layer, book=None):
        book = base() if book is None else book
        for call in CALLS:
            with self.assertRaises(InvalidLayer) as caught:
                call(book, layer)
            self.assertIs(caught.exception.value, layer)

    def rejects_row(self, row):
        fine, refused = ("set", "f", ("number", 1)), ("add", "e", 1)
        for layer in ([row], [fine, row], [row, fine], [refused, row], [row, refused], [fine, refused, row, fine]):
            self.rejects(layer)

    def test_other_objects(self):
        for item in odd_objects() + [("seal", "a"), (("seal", "a"),), "a", {"a": ("seal", "a")}]:
            if item != []:
                with self.subTest(item=item):
                    self.rejects(item)

    def test_other_rows(self):
        for item in odd_objects() + ["seal", "a", ["seal", "a"], ["set", "a", ("number", 1)], [("seal", "a")], 1, None]:
            with self.subTest(item=item):
                self.rejects_row(item)

    def test_words(self):
        for word in ["", "Set", "seals", "put", "number", "free", "sealed", None, True, 0, [], ["seal"], ("seal",), {}, Book([])]:
            for rest in [("a",), ("a", ("number", 1)), ("c", 1), ("c", "d")]:
                with self.subTest(word=word, rest=rest):
                    self.rejects_row((word,) + rest)

    def test_numbers_of_parts(self):
        for row in [(), ("set",), ("add",), ("seal",), ("set", "a"), ("add", "c"), ("set", "a", ("number", 1), 0),
                    ("add", "c", 1, 2), ("seal", "a", None), ("seal", "a", "b"), ("seal", "a", ("number", 1)),
                    ("set", "a", "number", 1), ("add", "c", [1]), ("add", "c", ["d"])]:
            with self.subTest(row=row):
                self.rejects_row(row)

    def test_names(self):
        for name in [name for name in NOT_KNOWN if name not in NAMES] + ["g", "ab", ["a"], ("a",), {"a": 1}]:
            with self.subTest(name=name):
                for row in [("set", name, ("number", 1)), ("add", name, 1), ("seal", name)]:
                    self.rejects_row(row)

    def test_definitions(self):
        book = Book([("a", ("free", None, None, ["b"]), ("number", 1)), ("b", ("sealed", 0, 1), ("number", 0))])
        for definition in bad_definitions():
            with self.subTest(definition=definition):
                self.rejects([("set", "a", definition)], book)
                self.rejects([("set", "b", ("number", 1)), ("set", "a", definition)], book)
                self.rejects([("set", "b", definition)], book)

    def test_operands(self):
        for operand in NOT_OPERANDS:
            if operand not in NAMES:
                with self.subTest(operand=operand):
                    for name in ("c", "d", "a", "e"):
                        self.rejects_row(("add", name, operand))

    def test_parts_of_definitions_of_choices(self):
        for definition in [("plus", "g", 0), ("plus", "c", False), ("plus", "c"), ["plus", "c", 0], "c", ("c",), ("choice", ["c"])]:
            with self.subTest(definition=definition):
                self.rejects_row(("set", "b", definition))

    def test_limits_do_not_matter_for_the_form(self):
        for number in NOT_WHOLE:
            self.rejects_row(("set", "f", ("number", number)))
        for item in NOT_LISTS:
            self.rejects_row(("set", "f", ("max", item)))

    def test_a_layer_for_another_book(self):
        self.rejects([("seal", "ground")])
        self.rejects([("seal", "a")], Book([]))

    def test_behind_many_rows_that_are_not_allowed(self):
        layer = [("seal", "e")] * 15
        for at in (0, 7, 15):
            self.rejects(layer[:at] + [("seal", "g")] + layer[at:])


class Allowed(unittest.TestCase):
    def refuses(self, layer, index, book=None):
        book = base() if book is None else book
        for call in CALLS:
            with self.assertRaises(NotAllowed) as caught:
                call(book, layer)
            self.assertEqual(caught.exception.index, index)
            self.assertNotIsInstance(caught.exception.index, bool)

    def refuses_row(self, row):
        self.refuses([row], 0)
        fine = [("set", "f", ("number", 1)), ("add", "d", 9)]
        self.refuses(fine + [row], 2)
        self.refuses(fine + [row] + fine, 2)
        self.refuses([row, row], 0)
        self.refuses([fine[0], row, ("seal", "e")], 1)

    def test_set_for_a_free_setting(self):
        for definition in [("number", 3), ("plus", "b", 1), ("plus", "d", 0), ("max", ["b", "d", 1, "b"]), ("min", [1]),
                           ("if", "b", "d", "d", 3), ("if", 1, 2, 3, 4)]:
            self.assertEqual((base() + [("set", "a", definition)]).setting("a"), ("a", BASE[0][1], definition))
        for definition in [("plus", "c", 1), ("plus", "a", 0), ("plus", "e", 1), ("max", ["b", "c"]), ("min", ["c"]),
                           ("max", ["e", "b"]), ("if", "c", 1, 2, 3), ("if", 1, "f", 2, 3), ("if", 1, 2, "c", 3),
                           ("if", 1, 2, "b", "a")]:
            with self.subTest(definition=definition):
                self.refuses_row(("set", "a", definition))
        self.refuses_row(("set", "f", ("plus", "e", 0)))
        self.refuses_row(("set", "f", ("plus", "f", 0)))

    def test_set_for_a_choice(self):
        for name in ("c", "d"):
            self.assertEqual((base() + [("set", "b", ("plus", name, 0))]).setting("b"), ("b", BASE[1][1], ("plus", name, 0)))
        for definition in [("plus", "c", 1), ("plus", "c", -1), ("plus", "e", 0), ("plus", "b", 0), ("number", 0),
                           ("max", ["c"]), ("min", ["c"]), ("if", 0, 0, "c", "c"), ("if", "c", 0, "c", "c"), ("number", 4)]:
            with self.subTest(definition=definition):
                self.refuses_row(("set", "b", definition))

    def test_set_for_other_settings(self):
        for name in ("c", "d", "e"):
            for definition in [("number", 1), ("max", ["e", 2]), ("min", ["e", 7]), ("max", [1]), ("plus", "e", 0)]:
                with self.subTest(name=name, definition=definition):
                    self.refuses_row(("set", name, definition))

    def test_add_for_an_extend_setting(self):
        for name, operands in [("c", ["d", "e", 3, -(10 ** 39)]), ("d", ["e", 0, 10 ** 39])]:
            for operand in operands:
                _, permission, definition = base().setting(name)
                self.assertEqual((base() + [("add", name, operand)]).setting(name),
                                 (name, permission, (definition[0], definition[1] + [operand])))
        for name, operand in [("c", "a"), ("c", "b"), ("c", "c"), ("c", "f"), ("d", "d"), ("d", "c"), ("d", "f")]:
            with self.subTest(name=name, operand=operand):
                self.refuses_row(("add", name, operand))

    def test_add_for_other_settings(self):
        for name in ("a", "b", "e", "f"):
            for operand in (1, "c", "d", name):
                with self.subTest(name=name, operand=operand):
                    self.refuses_row(("add", name, operand))

    def test_add_for_a_free_setting_with_max(self):
        book = Book([("a", ("free", 0, 9, []), ("max", [1])), ("b", ("sealed", 0, 9), ("min", [1]))])
        self.refuses([("add", "a", 1)], 0, book)
        self.refuses([("add", "b", 1)], 0, book)

    def test_operands_it_has_at_first_are_not_enough(self):
        book = Book([("a", ("extend", []), ("max", ["b"])), ("b", ("sealed", 0, 9), ("number", 1)),
                     ("c", ("free", 0, 9, []), ("plus", "b", 0))])
        self.refuses([("add", "a", "b")], 0, book)
        self.refuses([("set", "c", ("plus", "b", 0))], 0, book)

    def test_seal(self):
        for name, permission in [("a", ("sealed", -50, 50)), ("b", ("sealed", None, None)), ("c", ("sealed", None, None)),
                                 ("d", ("sealed", None, None)), ("f", ("sealed", None, None))]:
            after = base() + [("seal", name)]
            self.assertEqual(after.setting(name), (name, permission, base().setting(name)[2]))
            self.assertEqual(after.evaluate(), base().evaluate())
        for low, high in [(0, None), (None, 3), (2, 2)]:
            book = Book([("a", ("free", low, high, []), ("number", 2))])
            self.assertEqual((book + [("seal", "a")]).setting("a"), ("a", ("sealed", low, high), ("number", 2)))
        self.refuses_row(("seal", "e"))

    def test_rows_after_a_seal(self):
        rows = {"a": ("set", "a", ("number", 1)), "b": ("set", "b", ("plus", "d", 0)), "c": ("add", "c", 1),
                "d": ("add", "d", "e"), "f": ("set", "f", ("number", 1))}
        for name, row in rows.items():
            for last in (row, ("seal", name)):
                with self.subTest(last=last):
                    self.refuses([("seal", name), last], 1)
                    self.refuses([row, ("seal", name), last], 2)
                    self.refuses([last], 0, base() + [("seal", name)])
            self.assertEqual((base() + [row, ("seal", name)]).setting(name)[1][0], "sealed")
        self.assertEqual((base() + [("seal", "a"), rows["f"]])["f"], 1)

    def test_the_first_row_that_is_not_allowed(self):
        self.refuses([("seal", "e"), ("add", "a", 1), ("seal", "e")], 0)
        self.refuses([("seal", "a"), ("seal", "b"), ("seal", "a"), ("seal", "b")], 2)
        self.refuses([("add", "c", 1)] * 19 + [("seal", "e")], 19)

    def test_against_the_model(self):
        maker = Maker(6)
        counts = {True: 0, False: 0}
        for _ in range(1500):
            settings = maker.settings()
            layer = maker.layer(settings)
            after = model_after(settings, layer)
            counts[isinstance(after, list)] += 1
            if isinstance(after, list):
                self.assertEqual((Book(settings) + layer).settings(), after)
            else:
                self.refuses(layer, after, Book(settings))
        self.assertGreater(min(counts.values()), 100)


class Added(unittest.TestCase):
    def test_the_empty_layer(self):
        for book in (base(), theme(), Book([])):
            self.assertEqual(book + [], book)
            self.assertEqual((book + []).ranks(), book.ranks())
            self.assertEqual([touched(book, []), plain(book, [])], [[], []])

    def test_it_is_a_book(self):
        after = base() + [("set", "f", ("number", 3))]
        self.assertIsInstance(after, Book)
        self.assertEqual(after.names(), NAMES)
        self.assertEqual([after["f"], len(after)], [3, 6])

    def test_several_rows_for_one_setting(self):
        after = base() + [("set", "f", ("number", 3)), ("set", "f", ("number", 4)), ("add", "c", 20), ("add", "c", "d"),
                          ("add", "c", 20), ("set", "b", ("plus", "d", 0)), ("set", "b", ("plus", "c", 0))]
        self.assertEqual(after["f"], 4)
        self.assertEqual(after.setting("c"), ("c", ("extend", ["d", "e"]), ("max", ["e", 2, 20, "d", 20])))
        self.assertEqual(after.setting("b")[2], ("plus", "c", 0))

    def test_references_are_resolved_late(self):
        after = base() + [("add", "c", 30)]
        self.assertEqual(after.evaluate(), {"a": 31, "b": 30, "c": 30, "d": 5, "e": 5, "f": 1})

    def test_limits_after_a_layer(self):
        for number, result in [(70, 50), (-70, -50), (50, 50), (7, 7), (10 ** 39, 50)]:
            self.assertEqual((base() + [("set", "a", ("number", number))])["a"], result)
            self.assertEqual((base() + [("set", "a", ("number", number)), ("seal", "a")])["a"], result)

    def test_the_ranks_after_a_layer(self):
        self.assertEqual(base().ranks(), {"a": 4, "b": 3, "c": 2, "d": 1, "e": 0, "f": 0})
        after = base() + [("seal", "a"), ("seal", "c"), ("set", "b", ("plus", "d", 0))]
        self.assertEqual(after.ranks(), {"a": 2, "b": 2, "c": 1, "d": 1, "e": 0, "f": 0})
        self.assertEqual((base() + [("set", "a", ("number", 1)), ("seal", "a")]).ranks()["a"], 0)

    def test_the_book_as_it_was_before(self):
        book = base()
        for layer in ([("set", "a", ("number", 1)), ("add", "c", 3), ("seal", "d")], [("seal", "b")], []):
            book + layer
            touched(book, layer)
            plain(book, layer)
            self.assertEqual(book, base())
            self.assertEqual(book.settings(), BASE)
            self.assertEqual(book.evaluate(), base().evaluate())
        for bad in ([("add", "c", 3), ("seal", "e")], [("add", "c", 3), None], None):
            for call in CALLS:
                with self.assertRaises(ThemeError):
                    call(book, bad)
            self.assertEqual(book, base())
            self.assertEqual(book.settings(), BASE)

    def test_the_layer_is_not_changed(self):
        for layer in ([("set", "a", ("max", ["b", 3])), ("add", "c", "d"), ("seal", "a")],
                      [("set", "a", ("max", ["b", 3])), ("seal", "e")], [("add", "c", "d"), ("add", "c", [])]):
            before = copy.deepcopy(layer)
            for call in CALLS:
                try:
                    call(base(), layer)
                except ThemeError:
                    pass
                self.assertEqual(layer, before)

    def test_a_layer_that_is_changed_later(self):
        operands = ["b", 3]
        layer = [("set", "a", ("max", operands)), ("add", "c", 30)]
        after = base() + layer
        result = plain(base(), layer)
        operands.append(40)
        operands[0] = "d"
        layer.append(("seal", "a"))
        self.assertEqual(after.setting("a"), ("a", BASE[0][1], ("max", ["b", 3])))
        self.assertEqual([after["a"], after["c"]], [30, 30])
        self.assertEqual(result, [("set", "a", ("number", 30)), ("add", "c", 30)])

    def test_a_result_that_is_changed_later(self):
        layer = [("set", "a", ("max", ["b", 3])), ("add", "c", 30)]
        book = base()
        after = book + layer
        for setting in after.settings():
            for part in setting[1] + setting[2]:
                if isinstance(part, list):
                    part.append(99)
        self.assertEqual(after["a"], 30)
        self.assertEqual(book, base())
        self.assertEqual(layer, [("set", "a", ("max", ["b", 3])), ("add", "c", 30)])
        touched(book, layer).append("e")
        plain(book, layer).append(("seal", "a"))
        self.assertEqual([touched(book, layer), len(plain(book, layer))], [["a", "c"], 2])

    def test_the_layer_in_two_parts(self):
        maker = Maker(7)
        for _ in range(400):
            settings = maker.settings()
            layer = maker.allowed_layer(settings)
            book = Book(settings)
            whole = book + layer
            for at in range(len(layer) + 1):
                self.assertEqual(book + layer[:at] + layer[at:], whole)
            one_by_one = book
            for row in layer:
                one_by_one = one_by_one + [row]
            self.assertEqual(one_by_one, whole)
            self.assertEqual(whole.evaluate(), model_values(model_after(settings, layer)))

    def test_long_definitions(self):
        book = base()
        for number in range(120):
            book = book + [("add", "c", number)]
        self.assertEqual([book["c"], len(book.setting("c")[2][1])], [119, 122])

    def test_all_definitions(self):
        book = Book([("a", ("free", None, None, ["b"]), ("number", 1)), ("b", ("sealed", 0, 1), ("number", 0))])
        for definition in GOOD_DEFINITIONS:
            after = book + [("set", "a", definition)]
            self.assertEqual(after, Book([("a", ("free", None, None, ["b"]), definition), book.setting("b")]))


class Touched(unittest.TestCase):
    def test_order_and_repetition(self):
        layer = [("set", "f", ("number", 1)), ("add", "d", 1), ("set", "a", ("number", 1)), ("add", "c", 1),
                 ("set", "f", ("number", 2)), ("add", "d", 1), ("set", "b", ("plus", "d", 0))]
        self.assertEqual(touched(base(), layer), ["a", "b", "c", "d", "f"])
        self.assertEqual(touched(base(), layer[:2]), ["d", "f"])

    def test_seal_does_not_touch(self):
        self.assertEqual(touched(base(), [("seal", "a"), ("seal", "f")]), [])
        self.assertEqual(touched(base(), [("seal", "a"), ("add", "c", 1), ("seal", "c")]), ["c"])

    def test_the_same_value_touches(self):
        self.assertEqual(touched(base(), [("set", "f", ("number", 1)), ("add", "c", 2), ("set", "b", ("plus", "c", 0))]),
                         ["b", "c", "f"])

    def test_names_are_ordered_as_strings(self):
        names = ["b", "ab", "aa", "z", "ba", "a"]
        book = Book([(name, ("free", None, None, []), ("number", 0)) for name in names])
        layer = [("set", name, ("number", 1)) for name in names]
        self.assertEqual(touched(book, layer), ["a", "aa", "ab", "b", "ba", "z"])
        self.assertEqual([row[1] for row in plain(book, layer[::-1])], names)


class Plain(unittest.TestCase):
    def test_free(self):
        cases = [([("set", "a", ("number", 3))], 3), ([("set", "a", ("number", 99))], 50),
                 ([("set", "a", ("plus", "b", 1))], 6), ([("set", "a", ("plus", "b", 1)), ("add", "c", 20)], 21),
                 ([("set", "a", ("number", 3)), ("set", "a", ("min", ["d", -2]))], -2),
                 ([("set", "a", ("number", 3)), ("seal", "a")], 3), ([("set", "a", ("number", -99)), ("seal", "a")], -50)]
        for layer, number in cases:
            with self.subTest(layer=layer):
                self.assertEqual(plain(base(), layer)[0], ("set", "a", ("number", number)))

    def test_choice(self):
        self.assertEqual(plain(base(), [("set", "b", ("plus", "d", 0))]), [("set", "b", ("plus", "d", 0))])
        layer = [("set", "b", ("plus", "d", 0)), ("set", "b", ("plus", "c", 0)), ("seal", "b")]
        self.assertEqual(plain(base(), layer), [("set", "b", ("plus", "c", 0))])

    def test_extend(self):
        cases = [([("add", "c", 1)], ("add", "c", 1)), ([("add", "c", 1), ("add", "c", -4)], ("add", "c", 1)),
                 ([("add", "c", "d"), ("add", "c", 4)], ("add", "c", 5)), ([("add", "c", "e")], ("add", "c", 5)),
                 ([("add", "d", 9), ("add", "d", 6)], ("add", "d", 6)), ([("add", "d", "e"), ("add", "d", 8)], ("add", "d", 5)),
                 ([("add", "d", 10 ** 39)], ("add", "d", 10 ** 39)),
                 ([("add", "c", -(10 ** 39)), ("seal", "c")], ("add", "c", -(10 ** 39)))]
        for layer, row in cases:
            with self.subTest(layer=layer):
                self.assertEqual(plain(base(), layer), [row])

    def test_the_values_are_those_after_the_layer(self):
        layer = [("add", "c", "d"), ("add", "d", -3), ("set", "a", ("plus", "d", 0))]
        self.assertEqual(plain(base(), layer), [("set", "a", ("number", -3)), ("add", "c", -3), ("add", "d", -3)])

    def test_seal_alone(self):
        self.assertEqual(plain(base(), [("seal", "a"), ("seal", "c")]), [])
        self.assertEqual(plain(base(), [("seal", "a"), ("set", "f", ("number", 8))]), [("set", "f", ("number", 8))])

    def test_the_order_of_the_book(self):
        layer = [("set", "f", ("number", 8)), ("add", "d", 1), ("add", "c", 1), ("set", "b", ("plus", "d", 0)),
                 ("set", "a", ("number", 2))]
        self.assertEqual([row[1] for row in plain(base(), layer)], ["a", "b", "c", "d", "f"])

    def test_against_the_model(self):
        maker = Maker(8)
        for _ in range(1200):
            settings = maker.settings()
            layer = maker.allowed_layer(settings)
            book = Book(settings)
            result = plain(book, layer)
            self.assertEqual((book + result).evaluate(), (book + layer).evaluate())
            self.check_rows(settings, layer, result)

    def check_rows(self, settings, layer, result):
        values = model_values(model_after(settings, layer))
        names = sorted({row[1] for row in layer if row[0] in ("set", "add")})
        self.assertEqual(touched(Book(settings), layer), names)
        expected = []
        for name, permission, definition in settings:
            rows = [row for row in layer if row[1] == name and row[0] != "seal"]
            if name in names and permission[0] == "choice":
                expected.append(rows[-1])
            elif name in names and permission[0] == "free":
                expected.append(("set", name, ("number", values[name])))
            elif name in names:
                numbers = sorted(values.get(row[2], row[2]) for row in rows)
                expected.append(("add", name, numbers[-1] if definition[0] == "max" else numbers[0]))
        self.assertEqual(result, expected)

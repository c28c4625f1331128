"""Points 10, 11 and 13: values, ranks, names, membership and equality of books."""

import unittest

from laterthemes.books import Book
from laterthemes.errors import UnknownName
from tests.support import THEME, Maker, many_names, model_rank, model_values, odd_objects, theme

BIG = 10 ** 40 - 1


def value(definition, permission=("sealed", None, None), one=3, other=-4):
    """The value of a setting beside two others, `one` and `other`, that are numbers."""
    settings = [("it", permission, definition), ("one", ("free", None, None, []), ("number", one)),
                ("other", ("free", None, None, []), ("number", other))]
    return Book(settings)["it"]


class Example(unittest.TestCase):
    def test_example_of_section_3(self):
        from laterthemes.books import Book
        theme = Book([("ground", ("free", 0, 100, []), ("number", 95)), ("text", ("sealed", None, None), ("if", "ground", 50, 10, 90)), ("link", ("free", 0, 100, ["text"]), ("plus", "text", 20)), ("edge", ("extend", ["link"]), ("max", ["text", 30]))])
        self.assertEqual(
            [theme["ground"], theme["text"], theme["link"], theme["edge"], theme.ranks()["edge"], "dark" in theme],
            [95, 10, 30, 30, 3, False])


class Values(unittest.TestCase):
    def test_number(self):
        for number in (0, 1, -1, BIG, -BIG):
            self.assertEqual(value(("number", number)), number)

    def test_plus(self):
        for number in (0, 1, -1, BIG, -BIG):
            self.assertEqual(value(("plus", "one", number)), 3 + number)

    def test_max_and_min(self):
        cases = [([5], 5, 5), (["one"], 3, 3), (["one", "other"], 3, -4), (["other", "one", "other"], 3, -4),
                 ([7, "one", 7], 7, 3), ([-9, "one", "other"], 3, -9), ([BIG, -BIG], BIG, -BIG), ([2, 2], 2, 2),
                 (["one", "one"], 3, 3), ([0, -1, 1, 5, -6, 4], 5, -6)]
        for operands, greatest, least in cases:
            with self.subTest(operands=operands):
                self.assertEqual(value(("max", operands)), greatest)
                self.assertEqual(value(("min", operands)), least)

    def test_if(self):
        cases = [(("one", "other", 1, 2), 1), (("other", "one", 1, 2), 2), (("one", "one", 1, 2), 1), ((3, "one", 1, 2), 1),
                 ((2, "one", 1, 2), 2), (("one", 4, 1, 2), 2), (("one", 3, "other", "one"), -4), ((0, 1, "other", "one"), 3),
                 ((BIG, BIG - 1, BIG, 0), BIG), ((-BIG, BIG, 0, -BIG), -BIG), ((0, 0, 5, 5), 5)]
        for operands, result in cases:
            with self.subTest(operands=operands):
                self.assertEqual(value(("if",) + operands), result)

    def test_limits(self):
        cases = [(None, None, 7), (0, 100, 7), (7, 7, 7), (8, 9, 8), (5, 6, 6), (8, None, 8), (None, 6, 6), (6, None, 7),
                 (None, 8, 7), (BIG, BIG, BIG), (None, -BIG, -BIG), (7, None, 7), (None, 7, 7)]
        for low, high, result in cases:
            for definition in (("number", 7), ("plus", "one", 4), ("max", [7, "one"]), ("if", 1, 0, 7, 0)):
                with self.subTest(low=low, high=high, definition=definition):
                    self.assertEqual(value(definition, ("sealed", low, high)), result)
                    self.assertEqual(value(definition, ("free", low, high, [])), result)

    def test_only_sealed_and_free_settings_have_limits(self):
        self.assertEqual(value(("plus", "one", 0), ("choice", ["one", "other"]), one=BIG), BIG)
        self.assertEqual(value(("max", ["one", 5]), ("extend", ["one"]), one=BIG), BIG)
        self.assertEqual(value(("min", [-BIG, "one"]), ("extend", [])), -BIG)

    def test_limits_of_what_is_referred_to(self):
        settings = [("top", ("sealed", None, None), ("plus", "base", 1)), ("base", ("free", 0, 10, []), ("number", 50)),
                    ("way", ("choice", ["base"]), ("plus", "base", 0))]
        self.assertEqual(Book(settings).evaluate(), {"top": 11, "base": 10, "way": 10})

    def test_references_to_later_settings(self):
        settings = [("a", ("sealed", None, None), ("plus", "b", 1)), ("b", ("sealed", None, None), ("max", ["c", "d"])),
                    ("c", ("sealed", None, None), ("if", "d", "e", "e", "d")),
                    ("d", ("sealed", None, None), ("min", ["e", 3])), ("e", ("sealed", None, None), ("number", 9))]
        expected = {"a": 4, "b": 3, "c": 3, "d": 3, "e": 9}
        for order in (settings, settings[::-1], settings[2:] + settings[:2]):
            self.assertEqual(Book(order).evaluate(), expected)

    def test_against_the_model(self):
        maker = Maker(1)
        for _ in range(1500):
            settings = maker.settings()
            book = Book(settings)
            self.assertEqual(book.evaluate(), model_values(settings))
            self.assertEqual(list(book.evaluate()), book.names())
            for name in book.names():
                self.assertEqual(book[name], book.evaluate()[name])

    def test_many_references_are_answered_at_once(self):
        names = many_names(8)
        settings = [(name, ("free", None, None, names[:at]), ("max", [at] + (names[:at] * 15)[:98]))
                    for at, name in enumerate(names)]
        for order in (settings, settings[::-1]):
            book = Book(order)
            self.assertEqual(book[names[-1]], 7)
            self.assertEqual(book.ranks(), {name: at for at, name in enumerate(names)})

    def test_many_settings_are_answered_at_once(self):
        names = many_names(600)
        chain = [(name, ("sealed", None, None), ("plus", names[at - 1], 1) if at else ("number", 0))
                 for at, name in enumerate(names)]
        for order in (chain, chain[::-1]):
            book = Book(order)
            self.assertEqual([book[names[-1]], book.ranks()[names[-1]]], [599, 599])
        twice = [(name, ("sealed", None, None), ("max", [at] + names[max(at - 4, 0):at] * 2))
                 for at, name in enumerate(names)]
        self.assertEqual(Book(twice[::-1])[names[-1]], 599)


class Ranks(unittest.TestCase):
    def test_theme(self):
        self.assertEqual(theme().ranks(), {"ground": 0, "text": 1, "link": 2, "edge": 3})
        self.assertEqual(list(theme().ranks()), theme().names())

    def test_permissions_count(self):
        base = [("a", ("free", None, None, []), ("number", 0)), ("b", ("free", None, None, ["a"]), ("number", 0))]
        cases = [(("free", None, None, ["b"]), ("number", 0), 2), (("free", None, None, ["a"]), ("number", 0), 1),
                 (("sealed", None, None), ("number", 0), 0), (("sealed", 0, 1), ("plus", "a", 0), 1),
                 (("choice", ["a", "b"]), ("plus", "a", 0), 2), (("choice", ["a"]), ("plus", "a", 0), 1),
                 (("extend", ["b"]), ("max", ["a"]), 2), (("extend", []), ("max", ["a", 1]), 1),
                 (("extend", []), ("max", [1]), 0), (("extend", ["a"]), ("min", ["b", "b"]), 2)]
        for permission, definition, rank in cases:
            with self.subTest(permission=permission, definition=definition):
                settings = [("it", permission, definition)] + base
                self.assertEqual(Book(settings).ranks(), {"it": rank, "a": 0, "b": 1})
                self.assertEqual(Book(settings[::-1]).ranks(), {"it": rank, "a": 0, "b": 1})

    def test_names_that_do_not_decide_the_value_count(self):
        settings = [("it", ("sealed", None, None), ("if", 1, 0, 5, "b")), ("b", ("sealed", 0, 0), ("plus", "a", 0)),
                    ("a", ("sealed", None, None), ("number", 0))]
        self.assertEqual(Book(settings).ranks(), {"it": 2, "b": 1, "a": 0})

    def test_against_the_model(self):
        maker = Maker(2)
        for _ in range(800):
            settings = maker.settings()
            self.assertEqual(Book(settings).ranks(), {setting[0]: model_rank(settings, setting[0]) for setting in settings})


class Reading(unittest.TestCase):
    def test_names_and_settings(self):
        for settings in (THEME, THEME[::-1], THEME[:1], []):
            book = Book(settings)
            self.assertEqual(book.settings(), settings)
            self.assertEqual(book.names(), [setting[0] for setting in settings])
            self.assertEqual(len(book), len(settings))

    def test_setting(self):
        for setting in THEME:
            self.assertEqual(theme().setting(setting[0]), setting)
            self.assertIsInstance(theme().setting(setting[0]), tuple)
            self.assertEqual(theme().setting(name=setting[0]), setting)

    def test_unknown_names(self):
        for item in odd_objects() + ["dark", "Ground", "ground ", ["text"], ("link",), {"edge": 0}, "edges"]:
            if item != "ground":
                with self.subTest(item=item):
                    for call in (theme().setting, lambda at: theme()[at]):
                        with self.assertRaises(UnknownName) as caught:
                            call(item)
                        self.assertIs(caught.exception.name, item)
                        self.assertNotIn(item, theme())
                    with self.assertRaises(UnknownName):
                        Book([])[item]

    def test_in(self):
        book = theme()
        for name in book.names():
            self.assertIs(name in book, True)
        for item in odd_objects():
            self.assertIs(item in book, item == "ground")
            self.assertIs(item in Book([]), False)

    def test_words_are_no_names(self):
        for word in ("number", "free", "max", "sealed"):
            self.assertNotIn(word, theme())


class Equality(unittest.TestCase):
    def test_equal_books(self):
        self.assertIs(theme() == theme(), True)
        self.assertIs(theme() != theme(), False)
        self.assertIs(Book([]) == Book([]), True)
        self.assertEqual(theme(), Book(theme().settings()))

    def test_different_books(self):
        base = [("a", ("free", 0, 9, ["b"]), ("max", [1, "b"])), ("b", ("sealed", None, None), ("number", 2))]
        others = [
            base[::-1], base[1:], [],
            [("a", ("free", 0, 9, []), ("max", [1, "b"])), base[1]], [("a", ("free", 0, 8, ["b"]), ("max", [1, "b"])), base[1]],
            [("a", ("free", None, 9, ["b"]), ("max", [1, "b"])), base[1]], [("a", ("extend", ["b"]), ("max", [1, "b"])), base[1]],
            [("a", ("free", 0, 9, ["b"]), ("max", ["b", 1])), base[1]], [("a", ("free", 0, 9, ["b"]), ("min", [1, "b"])), base[1]],
            [base[0], ("b", ("sealed", None, None), ("number", 3))], [base[0], ("b", ("sealed", 2, 2), ("number", 2))],
            base + [("c", ("sealed", None, None), ("number", 2))],
        ]
        for other in others:
            with self.subTest(other=other):
                self.assertIs(Book(base) == Book(other), False)
                self.assertIs(Book(base) != Book(other), True)

    def test_the_same_values_are_not_enough(self):
        one = Book([("a", ("sealed", None, None), ("number", 2))])
        other = Book([("a", ("sealed", None, None), ("max", [2]))])
        self.assertEqual(one.evaluate(), other.evaluate())
        self.assertNotEqual(one, other)

    def test_other_objects(self):
        for item in odd_objects() + [THEME, tuple(THEME), theme().evaluate()]:
            if not isinstance(item, Book):
                for book in (theme(), Book([])):
                    with self.subTest(item=item):
                        self.assertIs(book == item, False)
                        self.assertIs(item == book, False)
                        self.assertIs(book != item, True)


class Independence(unittest.TestCase):
    def setUp(self):
        self.settings = [("a", ("free", 0, 9, ["c"]), ("max", [1, "c"])), ("b", ("choice", ["c", "d"]), ("plus", "c", 0)),
                         ("c", ("extend", ["d"]), ("min", [4, "d"])), ("d", ("sealed", None, 7), ("max", [5]))]
        self.expected = Book(self.settings).settings()

    def spoil(self, settings):
        """Change all lists inside the settings, and the list itself."""
        for setting in settings:
            self.spoil_setting(setting)
        settings.pop()
        settings.append(None)

    def spoil_setting(self, setting):
        for part in setting[1] + setting[2]:
            if isinstance(part, list):
                part.append(17)
                part.pop(0)

    def unchanged(self, book):
        self.assertEqual(book.settings(), self.expected)
        self.assertEqual(book.names(), ["a", "b", "c", "d"])
        self.assertEqual(book.evaluate(), {"a": 4, "b": 4, "c": 4, "d": 5})
        self.assertEqual(book.ranks(), {"a": 2, "b": 2, "c": 1, "d": 0})
        self.assertEqual([book[name] for name in "abcd"], [4, 4, 4, 5])
        self.assertEqual(len(book), 4)
        self.assertEqual(book, Book(self.expected))
        self.assertEqual((book + [("add", "c", 2)])["a"], 2)

    def test_what_was_passed(self):
        book = Book(self.settings)
        self.spoil(self.settings)
        self.unchanged(book)

    def test_settings(self):
        book = Book(self.settings)
        self.spoil(book.settings())
        self.unchanged(book)

    def test_setting(self):
        book = Book(self.settings)
        for name in book.names():
            self.spoil_setting(book.setting(name))
        self.unchanged(book)

    def test_names_evaluate_and_ranks(self):
        book = Book(self.settings)
        book.names().reverse()
        book.names().append("e")
        for result in (book.evaluate(), book.ranks()):
            result["a"] = 99
            result["e"] = 1
            del result["b"]
        self.unchanged(book)
        self.assertNotIn("e", book)

    def test_new_lists_for_each_call(self):
        book = Book(self.settings)
        self.assertIsNot(book.names(), book.names())
        self.assertIsNot(book.settings(), book.settings())
        self.assertIsNot(book.evaluate(), book.evaluate())
        self.assertIsNot(book.ranks(), book.ranks())
        for at in range(3):
            self.assertIsNot(book.settings()[at][1][-1], book.settings()[at][1][-1])
        self.assertIsNot(book.setting("a")[2][1], book.setting("a")[2][1])

    def test_lists_that_are_shared_in_the_argument(self):
        shared = ["c"]
        settings = [("a", ("extend", shared), ("max", shared)), ("b", ("free", None, None, shared), ("number", 1)),
                    ("c", ("sealed", 0, 9), ("number", 3))]
        book = Book(settings)
        after = book + [("add", "a", 8)]
        self.assertEqual(shared, ["c"])
        shared.append("b")
        self.assertEqual([after["a"], book["a"], book.setting("b")[1][3]], [8, 3, ["c"]])

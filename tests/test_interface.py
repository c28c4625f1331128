"""Point 1 and the section "The interface": names, arguments and the files in which they are defined."""

import ast
import inspect
import unittest
from pathlib import Path

from laterthemes import books, errors, layers
from laterthemes.books import Book, ring_layer
from laterthemes.layers import plain, touched
from tests.support import THEME, theme

PACKAGE = Path(books.__file__).parent
LISTED = {
    "errors": ["ThemeError", "InvalidBook", "PossibleRing", "UnknownName", "InvalidLayer", "NotAllowed", "InvalidClaim",
               "InvalidNumber", "InvalidList", "MismatchedBooks", "BrokenClaim", "NothingToUndo"],
    "books": ["Book", "ring_layer"],
    "layers": ["touched", "plain"],
}
METHODS = ["names", "settings", "setting", "evaluate", "ranks", "__getitem__", "__contains__", "__len__", "__eq__", "__add__"]


def parameters(function):
    return [(item.name, item.kind, item.default) for item in inspect.signature(function).parameters.values()]


def plain_parameters(*names):
    return [(name, inspect.Parameter.POSITIONAL_OR_KEYWORD, inspect.Parameter.empty) for name in names]


class Interface(unittest.TestCase):
    def test_defined_in_the_file_that_lists_it(self):
        for module, names in LISTED.items():
            tree = ast.parse((PACKAGE / (module + ".py")).read_text())
            defined = [node.name for node in tree.body if isinstance(node, (ast.FunctionDef, ast.ClassDef))]
            for name in names:
                with self.subTest(module=module, name=name):
                    self.assertEqual(defined.count(name), 1)

    def test_methods_in_the_class(self):
        for name in METHODS:
            self.assertIn(name, vars(Book))

    def test_parameters(self):
        self.assertEqual(parameters(Book), plain_parameters("settings"))
        self.assertEqual(parameters(ring_layer), plain_parameters("settings"))
        self.assertEqual(parameters(touched), plain_parameters("book", "layer"))
        self.assertEqual(parameters(plain), plain_parameters("book", "layer"))
        self.assertEqual(parameters(Book.setting), plain_parameters("self", "name"))
        for name in ("names", "settings", "evaluate", "ranks"):
            self.assertEqual(parameters(getattr(Book, name)), plain_parameters("self"))

    def test_by_name(self):
        layer = [("add", "edge", 7)]
        self.assertEqual(Book(settings=THEME), theme())
        self.assertIsNone(ring_layer(settings=THEME))
        self.assertEqual(theme().setting(name="link"), THEME[2])
        for call in (touched, plain):
            expected = call(theme(), layer)
            self.assertEqual(call(book=theme(), layer=layer), expected)
            self.assertEqual(call(layer=layer, book=theme()), expected)
            self.assertEqual(call(theme(), layer=layer), expected)

    def test_errors_by_name(self):
        for call in (touched, plain):
            with self.assertRaises(errors.InvalidBook):
                call(layer=None, book=None)
            with self.assertRaises(errors.InvalidLayer):
                call(layer=None, book=theme())
        with self.assertRaises(errors.InvalidBook):
            Book(settings=None)
        with self.assertRaises(errors.UnknownName):
            theme().setting(name=None)

    def test_kinds_of_results(self):
        book = theme()
        layer = [("add", "edge", 7), ("set", "ground", ("number", 1))]
        for result, kind in [(book.names(), list), (book.settings(), list), (book.setting("text"), tuple), (book["text"], int),
                             (book.evaluate(), dict), (book.ranks(), dict), ("text" in book, bool), (len(book), int),
                             (book == book, bool), (book + layer, Book), (touched(book, layer), list),
                             (plain(book, layer), list), (plain(book, layer)[0], tuple)]:
            self.assertIs(type(result), kind)
        for setting in book.settings():
            self.assertEqual([type(part) for part in setting], [str, tuple, tuple])

    def test_equal_calls_return_equal_results(self):
        layer = [("add", "edge", 7)]
        for call in (Book.names, Book.settings, Book.evaluate, Book.ranks):
            self.assertEqual(call(theme()), call(theme()))
        self.assertEqual(theme() + layer, theme() + layer)
        self.assertEqual(layers.plain(theme(), layer), layers.plain(theme(), layer))

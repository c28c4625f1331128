"""Point 1 and the section "The interface": names, arguments and the files in which they are defined."""

import ast
import importlib
import inspect
import unittest
from pathlib import Path

from laterthemes import books, errors, layers
from laterthemes.books import Book, ring_layer
from laterthemes.claims import Claim, holds
from laterthemes.compare import check_different, check_equivalent, compare, freeze, pair_book, redundant, settled, trim
from laterthemes.duals import breaks, seals
from laterthemes.layers import plain, touched
from laterthemes.live import Live
from laterthemes.spreads import layer_to, risk, safe_limits, spread
from laterthemes.verdicts import alternatives, check_break, check_evidence, verdict
from tests.support import THEME, theme

PACKAGE = Path(books.__file__).parent
LISTED = {
    "errors": ["ThemeError", "InvalidBook", "PossibleRing", "UnknownName", "InvalidLayer", "NotAllowed", "InvalidClaim",
               "InvalidNumber", "InvalidList", "MismatchedBooks", "BrokenClaim", "NothingToUndo"],
    "books": ["Book", "ring_layer"],
    "layers": ["touched", "plain"],
    "claims": ["Claim", "holds"],
    "verdicts": ["alternatives", "verdict", "check_evidence", "check_break"],
    "duals": ["breaks", "seals"],
    "spreads": ["spread", "risk", "layer_to", "safe_limits"],
    "compare": ["pair_book", "compare", "check_equivalent", "check_different", "settled", "freeze", "redundant", "trim"],
    "live": ["Live"],
}
METHODS = {
    Book: ["names", "settings", "setting", "evaluate", "ranks", "__getitem__", "__contains__", "__len__", "__eq__", "__add__"],
    Claim: ["conflicts", "at_least", "at_most", "equal", "contrast", "within", "__and__", "__eq__"],
    Live: ["book", "guards", "__getitem__", "__setitem__", "__contains__", "__len__", "__call__", "__iadd__", "layers", "push",
           "guard", "pop", "undo", "redo", "trial", "attempt", "copy"],
}


def parameters(function):
    return [(item.name, item.kind, item.default) for item in inspect.signature(function).parameters.values()]


def plain_parameters(*names):
    return [(name, inspect.Parameter.POSITIONAL_OR_KEYWORD, inspect.Parameter.empty) for name in names]


class Interface(unittest.TestCase):
    def test_defined_in_the_file_that_lists_it(self):
        for module, names in LISTED.items():
            tree = ast.parse((PACKAGE / (module + ".py")).read_text())
            defined = [node.name for node in tree.body if isinstance(node, (ast.FunctionDef, ast.ClassDef))]
            for name in names:
                with self.subTest(module=module, name=name):
                    self.assertEqual(defined.count(name), 1)
                    item = getattr(importlib.import_module("laterthemes." + module), name)
                    self.assertEqual((item.__module__, item.__name__), ("laterthemes." + module, name))

    def test_methods_in_the_class(self):
        for kind, names in METHODS.items():
            for name in names:
                self.assertIn(name, vars(kind))
        self.assertIsInstance(vars(Claim)["conflicts"], property)
        self.assertIsInstance(vars(Live)["guards"], property)
        for name in ("at_least", "at_most", "equal", "contrast", "within"):
            self.assertIsInstance(vars(Claim)[name], staticmethod)

    def test_parameters(self):
        self.assertEqual(parameters(Book), plain_parameters("settings"))
        self.assertEqual(parameters(ring_layer), plain_parameters("settings"))
        self.assertEqual(parameters(touched), plain_parameters("book", "layer"))
        self.assertEqual(parameters(plain), plain_parameters("book", "layer"))
        self.assertEqual(parameters(Book.setting), plain_parameters("self", "name"))
        for name in ("names", "settings", "evaluate", "ranks"):
            self.assertEqual(parameters(getattr(Book, name)), plain_parameters("self"))

    def test_parameters_of_claims_verdicts_and_duals(self):
        self.assertEqual(parameters(Claim), plain_parameters("conflicts"))
        for name in ("at_least", "at_most", "contrast", "within"):
            self.assertEqual(parameters(getattr(Claim, name)), plain_parameters("one", "other", "k"))
        self.assertEqual(parameters(Claim.equal), plain_parameters("one", "other"))
        self.assertEqual(parameters(holds), plain_parameters("book", "claim"))
        self.assertEqual(parameters(alternatives), plain_parameters("book", "name"))
        self.assertEqual(parameters(verdict), plain_parameters("book", "claim"))
        self.assertEqual(parameters(check_evidence), plain_parameters("book", "claim", "evidence"))
        self.assertEqual(parameters(check_break), plain_parameters("book", "claim", "layer"))
        for call in (breaks, seals):
            self.assertEqual(parameters(call),
                             plain_parameters("book", "claim") + [("loose", inspect.Parameter.KEYWORD_ONLY, ())])

    def test_parameters_of_spreads(self):
        other = [("other", inspect.Parameter.POSITIONAL_OR_KEYWORD, 0)]
        self.assertEqual(parameters(spread), plain_parameters("book", "one") + other)
        self.assertEqual(parameters(risk), plain_parameters("book", "claim", "one") + other)
        self.assertEqual(parameters(layer_to), plain_parameters("book", "one", "other", "number"))
        self.assertEqual(parameters(safe_limits), plain_parameters("book", "claim", "name"))

    def test_parameters_of_compare(self):
        self.assertEqual(parameters(pair_book), plain_parameters("one", "other", "name"))
        self.assertEqual(parameters(compare), plain_parameters("one", "other"))
        self.assertEqual(parameters(check_equivalent), plain_parameters("one", "other", "shown"))
        self.assertEqual(parameters(check_different), plain_parameters("one", "other", "layer"))
        for call in (settled, freeze, redundant, trim):
            self.assertEqual(parameters(call), plain_parameters("book"))

    def test_parameters_of_live_themes(self):
        self.assertEqual(parameters(Live), plain_parameters("book"))
        for name, names in [("layers", []), ("push", ["layer"]), ("guard", ["claims"]), ("pop", []), ("undo", []),
                            ("redo", []), ("trial", []),
                            ("attempt", ["action"]), ("copy", []), ("__call__", ["claim"])]:
            self.assertEqual(parameters(getattr(Live, name)), plain_parameters("self", *names))

    def test_by_name(self):
        layer = [("add", "edge", 7)]
        self.assertEqual(Book(settings=THEME), theme())
        self.assertIsNone(ring_layer(settings=THEME))
        self.assertEqual(theme().setting(name="link"), THEME[2])
        for call in (touched, plain):
            expected = call(theme(), layer)
            self.assertEqual(call(book=theme(), layer=layer), expected)
            self.assertEqual(call(layer=layer, book=theme()), expected)
            self.assertEqual(call(theme(), layer=layer), expected)

    def test_errors_by_name(self):
        for call in (touched, plain):
            with self.assertRaises(errors.InvalidBook):
                call(layer=None, book=None)
            with self.assertRaises(errors.InvalidLayer):
                call(layer=None, book=theme())
        with self.assertRaises(errors.InvalidBook):
            Book(settings=None)
        with self.assertRaises(errors.UnknownName):
            theme().setting(name=None)

    def test_kinds_of_results(self):
        book = theme()
        layer = [("add", "edge", 7), ("set", "ground", ("number", 1))]
        for result, kind in [(book.names(), list), (book.settings(), list), (book.setting("text"), tuple), (book["text"], int),
                             (book.evaluate(), dict), (book.ranks(), dict), ("text" in book, bool), (len(book), int),
                             (book == book, bool), (book + layer, Book), (touched(book, layer), list),
                             (plain(book, layer), list), (plain(book, layer)[0], tuple)]:
            self.assertIs(type(result), kind)
        for setting in book.settings():
            self.assertEqual([type(part) for part in setting], [str, tuple, tuple])

    def test_kinds_of_results_about_claims(self):
        book, claim = theme(), Claim.contrast("link", "ground", 60)
        sure = Claim.at_least("text", 0, 10)
        for result, kind in [(claim.conflicts, list), (claim & sure, Claim), (claim == sure, bool), (holds(book, claim), bool),
                             (alternatives(book, "text"), list), (verdict(book, claim), tuple), (verdict(book, sure), tuple),
                             (verdict(book, claim)[1], list), (verdict(book, sure)[1], list), (verdict(book, sure)[1][0], tuple),
                             (check_evidence(book, claim, []), bool), (check_break(book, claim, []), bool),
                             (breaks(book, claim), list), (seals(book, claim), list), (breaks(book, claim)[0], tuple),
                             (breaks(book, claim)[0][0], tuple), (breaks(book, claim)[0][1], list),
                             (seals(book, claim)[0], tuple), (seals(book, claim)[0][0], tuple), (seals(book, claim)[0][1], list)]:
            self.assertIs(type(result), kind)

    def test_kinds_of_results_of_spreads_and_compare(self):
        book, claim = theme(), Claim.contrast("link", "ground", 60)
        double = Book(THEME + [("rim", ("sealed", None, None), ("max", ["text", 10]))])
        for result, kind in [(spread(book, "text"), list), (spread(book, "text")[0], tuple), (spread(book, "text")[0][0], int),
                             (risk(book, claim, "ground"), list), (risk(book, claim, "ground")[0], tuple),
                             (layer_to(book, "text", 0, 10), list),
                             (layer_to(book, "text", 0, 11), type(None)), (safe_limits(book, claim, "ground"), list),
                             (pair_book(book, book, "text"), Book), (compare(book, book), tuple), (compare(book, book)[1], list),
                             (compare(book, book)[1][0], list), (compare(book, book + [("add", "edge", 99)]), tuple),
                             (compare(book, book + [("add", "edge", 99)])[1], list), (check_equivalent(book, book, []), bool),
                             (check_different(book, book, []), bool), (settled(book), list), (settled(book)[0], str),
                             (freeze(book), Book),
                             (redundant(double), list), (redundant(double)[0], tuple), (redundant(double)[0][1], int),
                             (trim(double), Book)]:
            self.assertIs(type(result), kind)

    def test_kinds_of_results_of_live_themes(self):
        live = Live(theme())
        live.push([("add", "edge", 7)])
        live.guards = [Claim([])]
        for result, kind in [(live.book, Book), (live.guards, list), (live.guards[0], Claim), (live["edge"], int),
                             ("edge" in live, bool),
                             (len(live), int), (live(Claim([])), str), (live.layers(), list), (live.layers()[0], list),
                             (live.copy(), Live),
                             (live.push([]), type(None)), (live.undo(), type(None)), (live.redo(), type(None)),
                             (live.guard([]), type(None)),
                             (live.attempt(len), int), (live.pop(), list)]:
            self.assertIs(type(result), kind)

    def test_equal_calls_return_equal_results(self):
        layer = [("add", "edge", 7)]
        for call in (Book.names, Book.settings, Book.evaluate, Book.ranks):
            self.assertEqual(call(theme()), call(theme()))
        self.assertEqual(theme() + layer, theme() + layer)
        self.assertEqual(layers.plain(theme(), layer), layers.plain(theme(), layer))

"""Point 33: the alternatives of a setting."""

import itertools
import unittest

from laterthemes.books import Book
from laterthemes.errors import InvalidBook, UnknownName
from laterthemes.verdicts import alternatives
from tests.reckoning import model_alternatives, model_sealed, model_true, open_names, plain_layers
from tests.support import THEME, Maker, SmallMaker, model_after, model_values, odd_objects, theme

BIG = 10 ** 40 - 1
LIMITS = [(None, None), (0, None), (None, 5), (-3, 5), (4, 4), (0, 0), (-BIG, BIG)]
OTHERS = [("x", ("free", None, None, []), ("number", 1)), ("y", ("extend", []), ("max", [0]))]


def book_with(permission, definition, name="s"):
    return Book(OTHERS + [(name, permission, definition)])


def facts_of(permission, definition):
    return alternatives(book_with(permission, definition), "s")


class Examples(unittest.TestCase):
    def test_of_the_document(self):
        self.assertEqual(alternatives(theme(), "text"), [
            [(0, "ground", -50), ("text", 0, 10), (0, "text", -10)], [("ground", 0, 49), ("text", 0, 90), (0, "text", -90)]])
        self.assertEqual([alternatives(theme(), "ground"), alternatives(theme(), "edge")],
                         [[[(0, "ground", 0), ("ground", 0, 100)]], [[("text", "edge", 0), (0, "edge", -30)]]])
        self.assertEqual(alternatives(Book([("rim", ("sealed", 0, 5), ("number", 7))]), "rim"),
                         [[("rim", 0, 5), (0, "rim", -5)]])
        self.assertEqual(alternatives(Book([("rim", ("sealed", 0, None), ("max", [10, 9]))]), "rim"), [
            [(0, 0, 1), (0, 0, 10), ("rim", 0, 10), (0, "rim", -10)], [(0, 0, 1), (0, 0, -11), ("rim", 0, 0), (0, "rim", 0)],
            [(0, 0, -1), (0, 0, 9), ("rim", 0, 9), (0, "rim", -9)], [(0, 0, -1), (0, 0, -10), ("rim", 0, 0), (0, "rim", 0)]])


class Written(unittest.TestCase):
    """Lists that are written out by hand."""

    def test_free(self):
        definitions = [("number", 3), ("plus", "x", 2), ("max", ["x", 1]), ("if", "x", 0, "y", 7)]
        for definition in definitions:
            for names in ([], ["x"], ["y", "x"]):
                self.assertEqual(facts_of(("free", None, None, names), definition), [[]])
                self.assertEqual(facts_of(("free", 2, None, names), definition), [[(0, "s", -2)]])
                self.assertEqual(facts_of(("free", None, 2, names), definition), [[("s", 0, 2)]])
                self.assertEqual(facts_of(("free", -4, 9, names), definition), [[(0, "s", 4), ("s", 0, 9)]])
                self.assertEqual(facts_of(("free", 0, 0, names), definition), [[(0, "s", 0), ("s", 0, 0)]])

    def test_choice(self):
        self.assertEqual(facts_of(("choice", ["x"]), ("plus", "x", 0)), [[("s", "x", 0), ("x", "s", 0)]])
        for chosen in ("x", "y"):
            self.assertEqual(facts_of(("choice", ["y", "x"]), ("plus", chosen, 0)),
                             [[("s", "y", 0), ("y", "s", 0)], [("s", "x", 0), ("x", "s", 0)]])

    def test_extend(self):
        for names in ([], ["x"]):
            self.assertEqual(facts_of(("extend", names), ("max", [4])), [[(0, "s", -4)]])
            self.assertEqual(facts_of(("extend", names), ("min", [4])), [[("s", 0, 4)]])
            self.assertEqual(facts_of(("extend", names), ("max", ["x", -4, "y", "x"])),
                             [[("x", "s", 0), (0, "s", 4), ("y", "s", 0), ("x", "s", 0)]])
            self.assertEqual(facts_of(("extend", names), ("min", ["x", -4, "y", "x"])),
                             [[("s", "x", 0), ("s", 0, -4), ("s", "y", 0), ("s", "x", 0)]])

    def test_sealed_number(self):
        for low, high in LIMITS:
            for n in (-BIG, -4, 0, 3, 4, 7, BIG):
                c = n if low is None else max(n, low)
                c = c if high is None else min(c, high)
                self.assertEqual(facts_of(("sealed", low, high), ("number", n)), [[("s", 0, c), (0, "s", -c)]])

    def test_sealed_plus(self):
        one = [("s", "x", 3), ("x", "s", -3)]
        low = [("x", 0, -2), ("s", 0, 2), (0, "s", -2)]
        high = [(0, "x", -6), ("s", 0, 8), (0, "s", -8)]
        definition = ("plus", "x", 3)
        self.assertEqual(facts_of(("sealed", None, None), definition), [one])
        self.assertEqual(facts_of(("sealed", 2, None), definition), [[(0, "x", 1)] + one, low])
        self.assertEqual(facts_of(("sealed", None, 8), definition), [[("x", 0, 5)] + one, high])
        self.assertEqual(facts_of(("sealed", 2, 8), definition), [[(0, "x", 1), ("x", 0, 5)] + one, low, high])

    def test_sealed_max(self):
        self.assertEqual(facts_of(("sealed", None, None), ("max", ["x"])), [[("s", "x", 0), ("x", "s", 0)]])
        self.assertEqual(facts_of(("sealed", None, None), ("max", [6])), [[("s", 0, 6), (0, "s", -6)]])
        self.assertEqual(facts_of(("sealed", None, None), ("max", ["x", 6, "x"])), [
            [(0, "x", -6), ("x", "x", 0), ("s", "x", 0), ("x", "s", 0)],
            [("x", 0, 6), ("x", 0, 6), ("s", 0, 6), (0, "s", -6)],
            [("x", "x", 0), (0, "x", -6), ("s", "x", 0), ("x", "s", 0)]])
        self.assertEqual(facts_of(("sealed", 1, 9), ("max", ["x", "y"])), [
            [("y", "x", 0), (0, "x", -1), ("x", 0, 9), ("s", "x", 0), ("x", "s", 0)],
            [("y", "x", 0), ("x", 0, 0), ("s", 0, 1), (0, "s", -1)],
            [("y", "x", 0), (0, "x", -10), ("s", 0, 9), (0, "s", -9)],
            [("x", "y", 0), (0, "y", -1), ("y", 0, 9), ("s", "y", 0), ("y", "s", 0)],
            [("x", "y", 0), ("y", 0, 0), ("s", 0, 1), (0, "s", -1)],
            [("x", "y", 0), (0, "y", -10), ("s", 0, 9), (0, "s", -9)]])

    def test_sealed_min(self):
        self.assertEqual(facts_of(("sealed", None, None), ("min", ["x", 6, "y"])), [
            [("x", 0, 6), ("x", "y", 0), ("s", "x", 0), ("x", "s", 0)],
            [(0, "x", -6), (0, "y", -6), ("s", 0, 6), (0, "s", -6)],
            [("y", "x", 0), ("y", 0, 6), ("s", "y", 0), ("y", "s", 0)]])
        self.assertEqual(facts_of(("sealed", None, -2), ("min", [5, 5])), [
            [(0, 0, 0), (0, 0, -7), ("s", 0, 5), (0, "s", -5)], [(0, 0, 0), (0, 0, 6), ("s", 0, -2), (0, "s", 2)],
            [(0, 0, 0), (0, 0, -7), ("s", 0, 5), (0, "s", -5)], [(0, 0, 0), (0, 0, 6), ("s", 0, -2), (0, "s", 2)]])

    def test_sealed_if(self):
        self.assertEqual(facts_of(("sealed", None, None), ("if", "x", "y", 3, "x")), [
            [("y", "x", 0), ("s", 0, 3), (0, "s", -3)], [("x", "y", -1), ("s", "x", 0), ("x", "s", 0)]])
        self.assertEqual(facts_of(("sealed", None, None), ("if", 2, "y", "y", 4)), [
            [("y", 0, 2), ("s", "y", 0), ("y", "s", 0)], [(0, "y", -3), ("s", 0, 4), (0, "s", -4)]])
        self.assertEqual(facts_of(("sealed", None, None), ("if", 2, 7, 1, 1)), [
            [(0, 0, -5), ("s", 0, 1), (0, "s", -1)], [(0, 0, 4), ("s", 0, 1), (0, "s", -1)]])
        self.assertEqual(facts_of(("sealed", 0, 1), ("if", "x", 8, "x", "y")), [
            [(0, "x", -8), (0, "x", 0), ("x", 0, 1), ("s", "x", 0), ("x", "s", 0)],
            [(0, "x", -8), ("x", 0, -1), ("s", 0, 0), (0, "s", 0)],
            [(0, "x", -8), (0, "x", -2), ("s", 0, 1), (0, "s", -1)],
            [("x", 0, 7), (0, "y", 0), ("y", 0, 1), ("s", "y", 0), ("y", "s", 0)],
            [("x", 0, 7), ("y", 0, -1), ("s", 0, 0), (0, "s", 0)],
            [("x", 0, 7), (0, "y", -2), ("s", 0, 1), (0, "s", -1)]])

    def test_long_numbers(self):
        self.assertEqual(facts_of(("sealed", -BIG, BIG), ("max", [BIG, -BIG]))[3:], [
            [(0, 0, -2 * BIG), (0, 0, 0), (0, 0, 2 * BIG), ("s", 0, -BIG), (0, "s", BIG)],
            [(0, 0, -2 * BIG), (0, 0, -1), ("s", 0, -BIG), (0, "s", BIG)],
            [(0, 0, -2 * BIG), (0, 0, -2 * BIG - 1), ("s", 0, BIG), (0, "s", -BIG)]])


class Reckoned(unittest.TestCase):
    """Lists that the test makes by its own reading of the document."""

    def assert_as_reckoned(self, settings):
        book = Book(settings)
        for name in book.names():
            expected = model_alternatives(settings, name)
            self.assertEqual(repr(alternatives(book, name)), repr(expected), (settings, name))
            self.assertEqual(repr(alternatives(name=name, book=book)), repr(expected))

    def test_every_definition_and_permission(self):
        operands = ["x", "y", 0, -2, 7]
        definitions = [("number", n) for n in (-9, 0, 5)] + [("plus", "x", k) for k in (0, 4, -4)]
        for word in ("max", "min"):
            for count in (1, 2, 3):
                definitions += [(word, list(chosen)) for chosen in itertools.product(operands, repeat=count)]
            definitions.append((word, operands + ["x", 0]))
        definitions += [("if",) + chosen for chosen in itertools.product(["x", "y", 3], repeat=4)]
        for definition in definitions:
            permissions = [("sealed", low, high) for low, high in LIMITS] + [("free", None, 3, ["x"]), ("free", 1, None, [])]
            if definition[0] in ("max", "min"):
                permissions.append(("extend", ["y"]))
            for permission in permissions:
                settings = OTHERS + [("s", permission, definition)]
                self.assert_as_reckoned(settings)

    def test_random_books_as_they_are_and_sealed(self):
        maker = Maker(33)
        for _ in range(300):
            settings = maker.settings()
            self.assert_as_reckoned(settings)
            self.assert_as_reckoned(model_sealed(settings, open_names(settings)))
            after = model_after(settings, maker.allowed_layer(settings))
            self.assert_as_reckoned(after)

    def test_new_lists_in_each_call(self):
        maker = Maker(34)
        for _ in range(60):
            settings = maker.settings()
            book = Book(settings)
            for name in book.names():
                expected = repr(alternatives(book, name))
                result = alternatives(book, name)
                self.assertIs(type(result), list)
                for facts in result:
                    self.assertIs(type(facts), list)
                    self.assertTrue(all(type(fact) is tuple for fact in facts))
                    facts.append(None)
                result.append(None)
                self.assertEqual(repr(alternatives(book, name)), expected)
            self.assertEqual(book, Book(settings))


class Possible(unittest.TestCase):
    """Values are possible after a layer exactly if each setting has an alternative whose facts are all true."""

    NUMBERS = range(-2, 4)

    def reached(self, settings):
        names = [setting[0] for setting in settings]
        for layer in plain_layers(settings, self.NUMBERS):
            values = model_values(model_after(settings, layer))
            yield tuple(values[name] for name in names)

    def allowed(self, settings):
        book = Book(settings)
        options = {name: alternatives(book, name) for name in book.names()}
        for numbers in itertools.product(self.NUMBERS, repeat=len(settings)):
            values = dict(zip(book.names(), numbers))
            if all(any(model_true(facts, values) for facts in options[name]) for name in options):
                yield numbers

    def assert_the_same(self, settings):
        within = set(itertools.product(self.NUMBERS, repeat=len(settings)))
        self.assertEqual(set(self.reached(settings)) & within, set(self.allowed(settings)), settings)

    def test_small_books(self):
        maker = SmallMaker(35)
        for _ in range(150):
            settings = maker.small_settings(3)
            self.assert_the_same(settings)
            self.assert_the_same(model_sealed(settings, maker.some(open_names(settings))))

    def test_four_settings(self):
        maker = SmallMaker(36)
        for _ in range(25):
            self.assert_the_same(maker.small_settings(4))


class Errors(unittest.TestCase):
    def test_no_book(self):
        for book in odd_objects() + [THEME]:
            for name in ("ground", "no", None, []):
                if not isinstance(book, Book):
                    with self.assertRaises(InvalidBook) as caught:
                        alternatives(book, name)
                    self.assertIs(caught.exception.value, book)

    def test_unknown_name(self):
        for book in (theme(), Book([])):
            for name in odd_objects() + ["Ground", "ground ", ["text"], ("text",), "tex", "texts"]:
                if not isinstance(name, str) or name not in book:
                    with self.assertRaises(UnknownName) as caught:
                        alternatives(book, name)
                    self.assertIs(caught.exception.name, name)
                    with self.assertRaises(UnknownName):
                        alternatives(name=name, book=book)

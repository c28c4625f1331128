"""Points 2, 10, 11 and 12: what is a list of settings, and InvalidBook for everything else."""

import copy
import unittest

from laterthemes.books import Book, ring_layer
from laterthemes.errors import InvalidBook, ThemeError
from laterthemes.layers import plain, touched
from tests.samples import GOOD_DEFINITIONS, NOT_NAMES, bad_definitions, bad_permissions
from tests.support import THEME, many_names, odd_objects


class Invalid(unittest.TestCase):
    def rejects(self, settings):
        for call in (Book, ring_layer):
            with self.assertRaises(InvalidBook) as caught:
                call(settings)
            self.assertIs(caught.exception.value, settings)

    def rejects_everywhere(self, settings):
        """The same settings, and with other ones around them, also with a possible ring."""
        ring = [("loop", ("sealed", None, None), ("plus", "loop", 0))]
        fine = [("fine", ("free", 0, 1, []), ("number", 0))]
        for more in (settings, settings + ring, ring + settings, fine + settings, settings + fine):
            self.rejects(more)

    def test_other_objects(self):
        for item in odd_objects():
            if item != []:
                with self.subTest(item=item):
                    self.rejects(item)
        self.rejects(tuple(THEME))
        self.rejects({name: (permission, definition) for name, permission, definition in THEME})

    def test_other_settings(self):
        good = ("a", ("free", 0, 1, []), ("number", 0))
        more = [good[:2], good + (0,), list(good), good[1:], (good,), [good], "abc", ["a", "b", "c"], ("a", good[1]),
                (good[1], "a", good[2]), ("a", good[2], good[1])]
        for item in odd_objects() + more:
            with self.subTest(item=item):
                self.rejects([item])
                self.rejects_everywhere([("b", ("free", 0, 1, []), ("number", 0)), item])

    def test_names(self):
        for name in NOT_NAMES:
            with self.subTest(name=name):
                self.rejects_everywhere([(name, ("free", 0, 1, []), ("number", 0))])

    def test_names_that_stand_twice(self):
        one, other = ("a", ("free", 0, 1, []), ("number", 0)), ("a", ("sealed", 0, 1), ("number", 1))
        between = ("b", ("free", 0, 1, []), ("number", 0))
        for settings in ([one, one], [one, other], [one, between, other], [between, one, one]):
            with self.subTest(settings=settings):
                self.rejects_everywhere(settings)

    def test_definitions(self):
        for definition in bad_definitions():
            for permission in (("sealed", None, None), ("free", None, None, [])):
                with self.subTest(definition=definition, permission=permission):
                    settings = [("a", permission, definition), ("b", ("sealed", 0, 1), ("number", 0))]
                    self.rejects(settings)
                    self.rejects(settings[::-1])

    def test_definitions_beside_a_possible_ring(self):
        for definition in bad_definitions():
            with self.subTest(definition=definition):
                self.rejects_everywhere([("a", ("sealed", None, None), definition), THEME[0],
                                         ("b", ("sealed", 0, 1), ("number", 0))])

    def test_permissions(self):
        for permission in bad_permissions():
            for definition in (("plus", "b", 0), ("max", ["b"]), ("min", [1])):
                with self.subTest(permission=permission, definition=definition):
                    self.rejects_everywhere([("a", permission, definition), ("b", ("sealed", 0, 1), ("number", 0))])

    def test_definitions_that_are_no_choice(self):
        others = [("plus", "b", 1), ("plus", "b", -1), ("plus", "c", 0), ("plus", "b", False), ("number", 0), ("max", ["b"]),
                  ("min", ["b"]), ("if", "b", "b", "b", "b"), ("if", "b", 0, "b", "b"), ("plus", "d", 0)]
        names = [(name, ("sealed", 0, 1), ("number", 0)) for name in ("b", "c")]
        for definition in others:
            with self.subTest(definition=definition):
                self.rejects_everywhere([("a", ("choice", ["b"]), definition)] + names)
        Book([("a", ("choice", ["b"]), ("plus", "b", 0))] + names)
        Book([("a", ("choice", ["c", "b"]), ("plus", "b", 0))] + names)

    def test_definitions_that_cannot_be_extended(self):
        for definition in (("number", 0), ("plus", "b", 0), ("if", 1, 2, 3, 4)):
            for listed in ([], ["b"]):
                with self.subTest(definition=definition, listed=listed):
                    self.rejects_everywhere([("a", ("extend", listed), definition),
                                             ("b", ("sealed", 0, 1), ("number", 0))])

    def test_functions_with_a_book(self):
        for call in (touched, plain):
            for item in odd_objects() + [THEME, tuple(THEME)]:
                if not isinstance(item, Book):
                    for layer in ([], [("seal", "ground")], None, Book([])):
                        with self.subTest(call=call, item=item), self.assertRaises(InvalidBook) as caught:
                            call(item, layer)
                        self.assertIs(caught.exception.value, item)


class Valid(unittest.TestCase):
    def test_the_empty_book(self):
        book = Book([])
        self.assertEqual([book.names(), book.settings(), book.evaluate(), book.ranks(), len(book)], [[], [], {}, {}, 0])
        self.assertIsNone(ring_layer([]))

    def test_names(self):
        for name in ("a", "z", "ab", "abcdefghij", "zzzzzzzzzz", "max", "free", "number"):
            self.assertEqual(Book([(name, ("free", 0, 1, []), ("number", 0))]).names(), [name])

    def test_definitions(self):
        for definition in GOOD_DEFINITIONS:
            for permission in (("sealed", None, None), ("free", None, None, [])):
                with self.subTest(definition=definition, permission=permission):
                    settings = [("a", permission, definition), ("b", ("sealed", 0, 1), ("number", 0))]
                    self.assertEqual(Book(settings).settings(), settings)
                    self.assertEqual(Book(settings[::-1]).settings(), settings[::-1])

    def test_permissions(self):
        limits = [(None, None), (0, None), (None, 0), (0, 0), (-5, 5), (-(10 ** 39), 10 ** 39), (10 ** 39, 10 ** 39)]
        listed = [[], ["b"], ["b", "c"], ["c", "b"]]
        permissions = [("sealed", low, high) for low, high in limits]
        permissions += [("free", low, high, names) for low, high in limits for names in listed]
        permissions += [("choice", names) for names in listed[1:]] + [("extend", names) for names in listed]
        more = [("b", ("sealed", 0, 1), ("number", 0)), ("c", ("free", None, None, []), ("number", 3))]
        for permission in permissions:
            definition = ("plus", permission[1][0], 0) if permission[0] == "choice" else ("min", ["b", 3, "c"])
            with self.subTest(permission=permission):
                settings = [("a", permission, definition)] + more
                self.assertEqual(Book(settings).settings(), settings)

    def test_the_first_definition_may_refer_to_any(self):
        names = [("b", ("sealed", 0, 1), ("number", 0)), ("c", ("sealed", 0, 1), ("number", 1))]
        for permission in (("free", None, None, []), ("free", None, None, ["b"])):
            self.assertEqual(Book([("a", permission, ("plus", "c", 4))] + names)["a"], 5)
        for permission in (("extend", []), ("extend", ["b"])):
            self.assertEqual(Book([("a", permission, ("max", ["c", "c"]))] + names)["a"], 1)

    def test_somewhat_beyond_the_limits(self):
        names = many_names(12)
        settings = [(name, ("sealed", None, None), ("max", [at] + names[:at] * 12)) for at, name in enumerate(names)]
        self.assertEqual(Book(settings).evaluate(), {name: at for at, name in enumerate(names)})
        self.assertEqual(Book([("a", ("free", None, None, []), ("number", 10 ** 60))])["a"], 10 ** 60)

    def test_arguments_are_not_changed(self):
        settings = copy.deepcopy(THEME)
        book = Book(settings)
        ring_layer(settings)
        book.evaluate()
        self.assertEqual(settings, THEME)
        for bad in bad_permissions():
            settings = [("a", bad, ("max", ["b"])), THEME[0]]
            before = repr(settings)
            for call in (Book, ring_layer):
                with self.assertRaises(ThemeError):
                    call(settings)
            self.assertEqual(repr(settings), before)

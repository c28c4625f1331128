"""Point 12: rings of settings that may mention one another, and the layers that make them."""

import copy
import unittest

from laterthemes.books import Book, ring_layer
from laterthemes.errors import PossibleRing
from tests.support import (
    THEME, Maker, many_names, model_after, model_has_ring, model_may_mention, model_mentions)

SEALED = ("sealed", None, None)
NUMBER = ("number", 1)


def links(name):
    """All ways to mention a name: pairs of a permission and a definition."""
    return [
        (SEALED, ("plus", name, 0)), (("sealed", 0, 9), ("max", [1, name])), (SEALED, ("min", [name])),
        (SEALED, ("if", name, 1, 2, 3)), (SEALED, ("if", 0, name, 2, 3)), (SEALED, ("if", 0, 1, name, 3)),
        (SEALED, ("if", 0, 1, 2, name)), (("free", 0, 9, []), ("plus", name, 0)), (("free", 0, 9, [name]), NUMBER),
        (("free", 0, 9, [name]), ("plus", name, 5)), (("choice", ["x", name]), ("plus", "x", 0)),
        (("choice", [name, "x"]), ("plus", name, 0)), (("extend", []), ("max", [3, name])),
        (("extend", ["x", name]), ("min", [3])), (("extend", [name]), ("min", ["x", name])),
    ]


def with_x(settings):
    return settings + [("x", ("free", None, None, []), NUMBER)]


class Rings(unittest.TestCase):
    def check(self, settings):
        """There is a ring, and both functions show one."""
        before = copy.deepcopy(settings)
        with self.assertRaises(PossibleRing) as caught:
            Book(settings)
        self.check_ring(settings, caught.exception.ring, model_may_mention)
        result = ring_layer(settings)
        self.assertIsInstance(result, tuple)
        layer, ring = result
        self.check_ring(settings, ring, model_may_mention)
        self.assertIsInstance(layer, list)
        after = model_after(settings, layer)
        self.assertIsInstance(after, list, "a row is not allowed")
        self.check_ring(after, ring, lambda setting: model_mentions(setting[2]))
        self.assertEqual(settings, before)
        return ring

    def check_ring(self, settings, ring, mentions):
        self.assertIsInstance(ring, list)
        self.assertGreater(len(ring), 0)
        self.assertEqual(len(set(ring)), len(ring))
        table = {setting[0]: setting for setting in settings}
        for at, name in enumerate(ring):
            self.assertIn(ring[(at + 1) % len(ring)], mentions(table[name]))

    def test_rings_of_one_name(self):
        for permission, definition in links("a"):
            with self.subTest(permission=permission, definition=definition):
                self.assertEqual(self.check(with_x([("a", permission, definition)])), ["a"])

    def test_rings_of_two_names(self):
        for one in links("b"):
            for other in links("a"):
                with self.subTest(one=one, other=other):
                    settings = with_x([("a",) + one, ("b",) + other])
                    self.assertEqual(set(self.check(settings)), {"a", "b"})
                    self.check(settings[::-1])

    def test_rings_of_three_names_beside_others(self):
        others = [("y", SEALED, ("max", ["a", "b", "x"])), ("z", ("free", 0, 1, ["y"]), ("plus", "c", 1))]
        for at, one in enumerate(links("b")):
            two, three = links("c")[(at + 4) % 15], links("a")[(at + 9) % 15]
            settings = with_x([("a",) + one, ("b",) + two, ("c",) + three])
            with self.subTest(settings=settings):
                for order in (others + settings, settings + others, settings[::-1] + others[::-1]):
                    self.assertEqual(set(self.check(order)), {"a", "b", "c"})

    def test_names_that_do_not_decide_the_value(self):
        self.check([("a", SEALED, ("if", 1, 0, 5, "a"))])
        self.check([("a", ("sealed", 3, 3), ("max", [9, "a"]))])

    def test_rings_of_many_settings(self):
        for count in (8, 40, 600):
            names = many_names(count)
            for at, permission in enumerate([SEALED, ("free", 0, 1), ("choice",), ("extend",)]):
                settings = []
                for k, name in enumerate(names):
                    following = names[(k + 1) % count]
                    settings.append((name,) + {
                        0: (SEALED, ("plus", following, 1)),
                        1: (("free", 0, 1, [following]), NUMBER),
                        2: (("choice", [following]), ("plus", following, 0)),
                        3: (("extend", [following]), ("max", [1])),
                    }[at if count == 40 else (at + k) % 4])
                with self.subTest(count=count, permission=permission):
                    self.assertEqual(set(self.check(settings)), set(names))
                    self.check(settings[::-1])

    def test_a_ring_at_the_end_of_many_references(self):
        names = many_names(300)
        settings = [(name, SEALED, ("max", names[at + 1:at + 5] * 3 or [1])) for at, name in enumerate(names)]
        self.assertIsNone(ring_layer(settings))
        settings[-1] = (names[-1], ("free", 0, 1, [names[-2]]), NUMBER)
        self.assertEqual(set(self.check(settings)), set(names[-2:]))

    def test_no_ring(self):
        for settings in ([], THEME, THEME[::-1], with_x([])):
            self.assertIsNone(ring_layer(settings))
            Book(settings)

    def test_a_name_mentioned_twice_is_no_ring(self):
        settings = [("a", ("free", 0, 1, ["b", "c"]), ("max", ["b", "c", "b"])), ("b", SEALED, ("max", ["d", "d"])),
                    ("c", ("choice", ["d"]), ("plus", "d", 0)), ("d", SEALED, NUMBER)]
        for order in (settings, settings[::-1]):
            self.assertIsNone(ring_layer(order))
            self.assertEqual(len(Book(order)), 4)

    def test_a_sealed_permission_mentions_nothing(self):
        settings = [("a", ("sealed", None, None), NUMBER), ("b", ("free", 0, 1, ["a"]), ("plus", "a", 0))]
        self.assertIsNone(ring_layer(settings))
        self.check([("a", ("free", None, None, ["b"]), NUMBER), settings[1]])

    def test_against_the_model(self):
        maker = Maker(3)
        found = {True: 0, False: 0}
        for _ in range(1500):
            settings = maker.loose_settings()
            expected = model_has_ring(settings)
            found[expected] += 1
            if expected:
                self.check(settings)
            else:
                self.assertIsNone(ring_layer(settings))
                Book(settings)
        self.assertGreater(min(found.values()), 50)

    def test_books_without_a_ring_against_the_model(self):
        maker = Maker(4)
        for _ in range(300):
            settings = maker.settings()
            self.assertFalse(model_has_ring(settings))
            self.assertIsNone(ring_layer(settings))

    def test_results_are_new_lists(self):
        settings = [("a", ("extend", ["a"]), ("max", [1]))]
        layer, ring = ring_layer(settings)
        layer.append(None)
        ring.append(None)
        self.assertEqual(ring_layer(settings), ([("add", "a", "a")], ["a"]))
        self.assertEqual(settings, [("a", ("extend", ["a"]), ("max", [1]))])

    def test_equal_calls_return_equal_results(self):
        settings = with_x([("a", ("choice", ["b", "x"]), ("plus", "x", 0)), ("b", ("free", 0, 1, ["a"]), NUMBER)])
        self.assertEqual(ring_layer(settings), ring_layer(copy.deepcopy(settings)))

    def test_no_layer_makes_a_ring(self):
        maker = Maker(5)
        for _ in range(200):
            settings = maker.settings()
            after = model_after(settings, maker.allowed_layer(settings))
            self.assertIsNone(ring_layer(after))

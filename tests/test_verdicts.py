"""Points 34 and 35: verdicts, and what check_break says of layers."""

import copy
import unittest

from laterthemes.books import Book
from laterthemes.claims import Claim, holds
from laterthemes.verdicts import check_break, check_evidence, verdict
from tests.reckoning import (
    is_tidy, model_breaks, model_holds, model_is_evidence, model_sealed, open_names, plain_layers)
from tests.support import Maker, SmallMaker, model_after, model_values, odd_objects, theme

FREE = ("free", None, None, [])
SEALED = ("sealed", None, None)
BIG = 10 ** 40 - 1


class Examples(unittest.TestCase):
    def test_of_the_document(self):
        evidence = [("case", "text", [("ring", [(0, "ground", -50), ("ground", "text", 39), ("text", 0, 10)]),
                                      ("ring", [(0, "text", -90), ("text", "ground", 39), ("ground", 0, 49)])])]
        broken = Claim.contrast("text", "ground", 41)
        self.assertEqual([
            check_evidence(theme(), Claim.contrast("text", "ground", 40), evidence), verdict(theme(), broken)[0],
            check_break(theme(), broken, [("set", "ground", ("number", 50))])], [True, "breaks", True])
        self.assertEqual(verdict(theme(), Claim.contrast("text", "ground", 40))[0], "sure")


class VerdictTest(unittest.TestCase):
    def assert_right(self, settings, claim):
        """The verdict is right by what shows it; returns its first item."""
        book = Book(settings)
        conflicts = claim.conflicts
        before = repr(conflicts), repr(book.settings())
        result = verdict(book, claim)
        self.assertIs(type(result), tuple)
        self.assertEqual(len(result), 2)
        word, shown = result
        self.assertIs(type(shown), list)
        if word == "sure":
            self.assertTrue(model_is_evidence(settings, conflicts, shown), (settings, conflicts, shown))
            self.assertIs(check_evidence(book, claim, shown), True)
            self.assertTrue(all(is_tidy(tree) for tree in shown), shown)
        else:
            self.assertEqual(word, "breaks")
            self.assertTrue(model_breaks(settings, conflicts, shown), (settings, conflicts, shown))
            self.assertIs(check_break(book, claim, shown), True)
            self.assertIs(holds(book + shown, claim), False)
        self.assertEqual((repr(conflicts), repr(book.settings())), before)
        return word


class Written(VerdictTest):
    def assert_sure(self, settings, claim):
        self.assertEqual(self.assert_right(settings, claim), "sure")

    def assert_breaks(self, settings, claim):
        self.assertEqual(self.assert_right(settings, claim), "breaks")

    def test_without_conflicts(self):
        for settings in ([], theme().settings(), [("a", FREE, ("number", BIG))]):
            self.assertEqual(verdict(Book(settings), Claim([])), ("sure", []))

    def test_without_settings(self):
        self.assert_sure([], Claim([[(0, 0, -1)]]))
        self.assert_sure([], Claim([[(0, 0, 5), (0, 0, -1)], [(0, 0, -BIG)]]))
        self.assertEqual(verdict(Book([]), Claim([[(0, 0, 0)]])), ("breaks", []))
        self.assertEqual(verdict(Book([]), Claim([[(0, 0, -1)], [(0, 0, BIG), (0, 0, 0)]])), ("breaks", []))

    def test_without_open_settings(self):
        settings = [("a", SEALED, ("number", 3)), ("b", ("sealed", 4, 9), ("plus", "a", 2)), ("c", SEALED, ("min", ["a", "b"]))]
        self.assert_sure(settings, Claim.equal("c", "a"))
        self.assertEqual(verdict(Book(settings), Claim.at_least("a", "b", -1)), ("breaks", []))
        self.assert_sure(settings, Claim.at_least("a", "b", -2) & Claim.at_most("c", 0, 3))

    def test_without_limits(self):
        settings = [("a", FREE, ("number", 0)), ("b", FREE, ("number", 0)), ("p", SEALED, ("max", ["a", "b"])),
                    ("q", SEALED, ("min", ["a", "b"])), ("r", ("extend", []), ("max", ["p", 7]))]
        for k in (0, 1, -1, BIG, -BIG):
            self.assert_breaks(settings, Claim.at_least("a", 0, k))
            self.assert_breaks(settings, Claim.at_most("a", "b", k))
            self.assert_breaks(settings, Claim.contrast("p", "q", 1 + abs(k)))
        self.assert_sure(settings, Claim.at_least("p", "q", 0) & Claim.at_least("r", "a", 0) & Claim.at_least("r", 0, 7))
        self.assert_breaks(settings, Claim.at_least("p", "q", 1))
        self.assert_breaks(settings, Claim.at_least("r", 0, 8))
        self.assert_sure(settings, Claim([[("p", "a", -1), ("p", "b", -1)], [("a", "q", -1)]]))

    def test_at_the_limits(self):
        settings = [("a", ("free", -3, 5, []), ("number", 0)), ("b", ("sealed", 0, 4), ("plus", "a", 1))]
        for k in (-1, 0, 1, 2, 10):
            self.assertEqual(self.assert_right(settings, Claim.at_least("a", 0, -3 - k)), "sure" if k >= 0 else "breaks")
            self.assertEqual(self.assert_right(settings, Claim.at_most("a", 0, 5 + k)), "sure" if k >= 0 else "breaks")
            self.assertEqual(self.assert_right(settings, Claim.at_most("b", 0, 4 + k)), "sure" if k >= 0 else "breaks")
            self.assertEqual(self.assert_right(settings, Claim.within("b", "a", 3 + k)), "sure" if k >= 0 else "breaks")
        self.assert_sure(settings, Claim.at_least("b", "a", -1))
        self.assert_breaks(settings, Claim.at_least("b", "a", 0))

    def test_long_numbers(self):
        settings = [("a", ("free", -BIG, BIG, []), ("number", 0)), ("b", SEALED, ("if", "a", BIG, -BIG, "a"))]
        self.assert_sure(settings, Claim.at_most("b", 0, BIG - 1))
        self.assert_breaks(settings, Claim.at_most("b", 0, BIG - 2))
        self.assert_sure(settings, Claim.at_least("a", 0, -BIG))
        self.assert_breaks(settings, Claim.at_least("a", 0, 1 - BIG))

    def test_each_conflict_in_turn(self):
        settings = [("a", ("free", 0, 9, []), ("number", 0)), ("b", ("choice", ["a"]), ("plus", "a", 0))]
        never = [("a", "b", -1)], [(0, 0, -1)], [("a", 0, 3), (0, "b", -4)]
        for at in range(4):
            conflicts = list(never)
            self.assert_sure(settings, Claim(conflicts))
            conflicts.insert(at, [("a", "b", 0), ("b", 0, 0)])
            self.assert_breaks(settings, Claim(conflicts))

    def test_choices(self):
        settings = [("a", ("free", 0, 4, []), ("number", 0)), ("b", ("free", 6, 9, []), ("number", 7)),
                    ("s", ("choice", ["b", "a"]), ("plus", "b", 0)), ("t", ("choice", ["a", "s"]), ("plus", "a", 0))]
        self.assert_sure(settings, Claim([[(0, "s", -5), ("s", 0, 5)]]))
        self.assert_breaks(settings, Claim([[(0, "s", -4), ("s", 0, 4)]]))
        self.assert_sure(settings, Claim([[("s", "a", 0), (0, "t", -5)]]))
        self.assert_breaks(settings, Claim([[(0, "s", -6), ("t", 0, 3)]]))

    def test_references_that_are_kept_when_nothing_else_breaks(self):
        settings = [("a", FREE, ("number", 0)), ("b", ("free", 0, 10, ["a"]), ("plus", "a", 3)),
                    ("c", ("extend", ["a", "b"]), ("min", ["a", "b"]))]
        self.assert_breaks(settings, Claim.equal("b", 0))
        self.assert_breaks(settings, Claim.at_least("c", 0, -BIG))
        self.assert_sure(settings, Claim.at_most("c", 0, 10) & Claim.at_most("c", "a", 0))


class Reckoned(VerdictTest):
    def test_many_books(self):
        maker = Maker(50)
        seen = {"sure": 0, "breaks": 0}
        for _ in range(700):
            settings = maker.settings()
            names = [setting[0] for setting in settings]
            seen[self.assert_right(settings, maker.claim(names))] += 1
            settings = model_sealed(settings, maker.some(open_names(settings)))
            seen[self.assert_right(settings, maker.claim(names, 6, 4))] += 1
        self.assertGreater(min(seen.values()), 150)

    def test_small_books_against_all_plain_layers(self):
        """No layer of plain numbers breaks what is called sure."""
        maker = SmallMaker(51)
        seen = {"sure": 0, "breaks": 0}
        for _ in range(60):
            settings = maker.small_settings(maker.dice.randint(1, 4))
            names = [setting[0] for setting in settings]
            reached = [model_values(model_after(settings, layer)) for layer in plain_layers(settings)]
            for _ in range(12):
                claim = maker.claim(names)
                word = self.assert_right(settings, claim)
                if not all(model_holds(claim.conflicts, values) for values in reached):
                    self.assertEqual(word, "breaks", (settings, claim.conflicts))
                seen[word] += 1
        self.assertGreater(min(seen.values()), 100)

    def test_two_open_settings_against_many_numbers(self):
        """The numbers that are tried are enough: both answers agree with trying all of them."""
        maker = SmallMaker(52)
        seen = {"sure": 0, "breaks": 0}
        for _ in range(120):
            settings = maker.small_settings(4)
            opened = open_names(settings)
            settings = model_sealed(settings, opened[2:] if maker.dice.random() < 0.5 else opened[:-2])
            layers = list(plain_layers(settings, range(-12, 13)))
            reached = [model_values(model_after(settings, layer)) for layer in layers]
            for _ in range(5):
                claim = maker.claim([setting[0] for setting in settings])
                sure = all(model_holds(claim.conflicts, values) for values in reached)
                word = self.assert_right(settings, claim)
                self.assertEqual(word, "sure" if sure else "breaks", (settings, claim.conflicts))
                seen[word] += 1
        self.assertGreater(min(seen.values()), 50)

    def test_after_any_layer_a_sure_claim_stays_sure(self):
        maker = Maker(53)
        for _ in range(150):
            settings = maker.settings()
            claim = maker.claim([setting[0] for setting in settings])
            if self.assert_right(settings, claim) == "sure":
                after = model_after(settings, maker.allowed_layer(settings))
                self.assertEqual(self.assert_right(after, claim), "sure")

    def test_equal_calls_and_new_lists(self):
        maker = Maker(54)
        for _ in range(100):
            settings = maker.settings()
            claim = maker.claim([setting[0] for setting in settings])
            first = verdict(Book(settings), claim)
            expected = repr(first)
            self.assertEqual(repr(verdict(claim=Claim(claim.conflicts), book=Book(settings))), expected)
            book = Book(settings)
            for tree in verdict(book, claim)[1] if first[0] == "sure" else []:
                tree[-1].clear()
            verdict(book, claim)[1].clear()
            self.assertEqual(repr(verdict(book, claim)), expected)


class CheckBreak(unittest.TestCase):
    CLAIM = Claim.contrast("text", "ground", 41)

    def test_layers_that_break(self):
        for layer in [[("set", "ground", ("number", 50))], [("set", "ground", ("number", 1)), ("set", "ground", ("number", 50))],
                      [("add", "edge", 3), ("set", "ground", ("number", 50)), ("seal", "ground")],
                      [("set", "ground", ("max", [50, 20]))], [("set", "ground", ("if", 1, 0, 50, 0))]]:
            before = copy.deepcopy(layer)
            self.assertIs(check_break(theme(), self.CLAIM, layer), True)
            self.assertIs(check_break(layer=layer, book=theme(), claim=self.CLAIM), True)
            self.assertEqual(layer, before)

    def test_layers_that_do_not_break(self):
        for layer in [[], [("seal", "ground")], [("set", "ground", ("number", 51))], [("add", "edge", 50)],
                      [("set", "ground", ("number", 50)), ("set", "ground", ("number", 48))],
                      [("set", "link", ("plus", "text", 9))], [("set", "ground", ("number", 10 ** 39))]]:
            self.assertIs(check_break(theme(), self.CLAIM, layer), False, layer)

    def test_layers_that_are_not_allowed(self):
        breaking = ("set", "ground", ("number", 50))
        for layer in [[("seal", "ground"), breaking], [breaking, ("add", "ground", 3)], [breaking, ("add", "edge", "text")],
                      [breaking, ("seal", "text")], [breaking, ("set", "link", ("plus", "ground", 0))],
                      [("seal", "text"), breaking], [breaking, ("seal", "edge"), ("add", "edge", 1)]]:
            self.assertIs(check_break(theme(), self.CLAIM, layer), False, layer)

    def test_any_object(self):
        breaking = ("set", "ground", ("number", 50))
        odd = odd_objects() + [(breaking,), {0: breaking}, breaking, [breaking, None], [list(breaking)], [[breaking]],
                               [("set", "ground", ["number", 50])], [("set", "ground", ("number", True))], [breaking + (1,)],
                               [("set", "no", ("number", 50))], [breaking, ("seal", "no")], [breaking, ("Seal", "link")],
                               [("set", ["ground"], ("number", 50))], [breaking, theme()], [theme()], [self.CLAIM]]
        broken = Claim([[(0, 0, 0)]])
        for layer in odd:
            before = repr(layer)
            self.assertIs(check_break(theme(), self.CLAIM, layer), False, layer)
            self.assertIs(check_break(theme(), broken, layer), layer == [], layer)
            self.assertEqual(repr(layer), before)

    def test_against_a_reckoning(self):
        maker = Maker(55)
        seen = {True: 0, False: 0}
        for _ in range(400):
            settings = maker.settings()
            claim = maker.claim([setting[0] for setting in settings])
            for layer in (maker.layer(settings), maker.allowed_layer(settings)):
                expected = model_breaks(settings, claim.conflicts, layer)
                self.assertIs(check_break(Book(settings), claim, layer), expected)
                seen[expected] += 1
        self.assertGreater(min(seen.values()), 100)

"""Points 40 and 41: minimal breaks and minimal seals."""

import itertools
import unittest

from laterthemes.books import Book
from laterthemes.claims import Claim, holds
from laterthemes.duals import breaks, seals
from laterthemes.errors import InvalidBook, InvalidClaim, InvalidList, UnknownName
from laterthemes.layers import touched
from laterthemes.verdicts import check_break, check_evidence, verdict
from tests.reckoning import (
    is_tidy, model_breaks, model_holds, model_is_evidence, model_sealed, open_names, plain_layers, subsets)
from tests.support import THEME, Maker, SmallMaker, model_after, model_values, odd_objects, theme

FREE = ("free", None, None, [])
SEALED = ("sealed", None, None)
EXAMPLE = Claim.contrast("link", "ground", 60)


def is_a_break(settings, claim, names):
    """Whether the claim can break when all open settings but these are sealed, by a verdict that is shown."""
    closed = model_sealed(settings, [name for name in open_names(settings) if name not in names])
    word, shown = verdict(Book(closed), claim)
    if word == "breaks":
        assert model_breaks(closed, claim.conflicts, shown)
        return True
    assert model_is_evidence(closed, claim.conflicts, shown)
    return False


def minimal(sets):
    return [names for names in sets if not any(set(other) < set(names) for other in sets)]


class DualsTest(unittest.TestCase):
    def assert_right(self, settings, claim, loose=()):
        """Breaks and seals are just the minimal ones by trying all sets; returns their names."""
        book = Book(settings)
        firm = [name for name in open_names(settings) if name not in loose]
        broken = [names for names in subsets(firm) if is_a_break(settings, claim, names + tuple(loose))]
        meeting = [names for names in subsets(firm)
                   if not is_a_break(settings, claim, [name for name in open_names(settings) if name not in names])]
        before = repr(settings), repr(claim.conflicts), repr(loose)
        found, saved = breaks(book, claim, loose=loose), seals(book, claim, loose=loose)
        self.assertEqual((repr(settings), repr(claim.conflicts), repr(loose)), before)
        self.assertEqual([names for names, _ in found], minimal(broken), (settings, claim.conflicts, loose))
        self.assertEqual([names for names, _ in saved], minimal(meeting), (settings, claim.conflicts, loose))
        self.assert_breaks_shown(book, claim, loose, found)
        self.assert_seals_shown(book, claim, saved)
        for one, other in itertools.product(found, saved):
            self.assertTrue(set(one[0]) & set(other[0]))
        return [names for names, _ in found], [names for names, _ in saved]

    def assert_breaks_shown(self, book, claim, loose, found):
        self.assertIs(type(found), list)
        for row in found:
            self.assertEqual([type(part) for part in row], [tuple, list])
            names, layer = row
            self.assertIs(type(row), tuple)
            self.assertEqual(names, tuple(sorted(names)))
            self.assertTrue(model_breaks(book.settings(), claim.conflicts, layer), (book.settings(), layer))
            self.assertIs(check_break(book, claim, layer), True)
            self.assertEqual([name for name in touched(book, layer) if name not in loose], list(names))
            self.assertFalse([row for row in layer if row[0] == "seal" and row[1] not in loose + names])

    def assert_seals_shown(self, book, claim, saved):
        self.assertIs(type(saved), list)
        for row in saved:
            self.assertIs(type(row), tuple)
            self.assertEqual([type(part) for part in row], [tuple, list])
            names, evidence = row
            self.assertEqual(names, tuple(sorted(names)))
            closed = book + [("seal", name) for name in names]
            self.assertTrue(model_is_evidence(closed.settings(), claim.conflicts, evidence))
            self.assertIs(check_evidence(closed, claim, evidence), True)
            self.assertTrue(all(is_tidy(tree) for tree in evidence))


class Examples(DualsTest):
    def test_of_the_document(self):
        claim = Claim.contrast("link", "ground", 60)
        self.assertEqual(
            [[names for names, layer in breaks(theme(), claim)], [names for names, evidence in seals(theme(), claim)],
             [names for names, layer in breaks(theme(), claim, loose=["ground"])]],
            [[("ground",), ("link",)], [("ground", "link")], [()]])
        self.assert_right(THEME, claim)
        self.assertEqual(self.assert_right(THEME, claim, ("ground",)), ([()], []))
        self.assertEqual(self.assert_right(THEME, claim, ("edge",)), ([("ground",), ("link",)], [("ground", "link")]))
        self.assertEqual(self.assert_right(THEME, claim, ("edge", "link", "ground")), ([()], []))


class Written(DualsTest):
    def test_sure(self):
        for settings, claim in [(THEME, Claim.contrast("text", "ground", 40)), (THEME, Claim([])), ([], Claim([])),
                                ([], Claim([[(0, 0, -1)]]))]:
            for loose in [()] + ([("ground",), ("link", "edge")] if settings else []):
                self.assertEqual(self.assert_right(settings, claim, loose), ([], [()]))

    def test_broken_at_once(self):
        for settings, claim in [(THEME, Claim.at_least("ground", 0, 96)), (THEME, Claim([[(0, 0, 0)]])), ([], Claim([[(0, 0, 3)]])),
                                ([("a", SEALED, ("number", 1))], Claim.equal("a", 0))]:
            for loose in [()] + ([("ground",), ("ground", "link", "edge")] if settings == THEME else []):
                self.assertEqual(self.assert_right(settings, claim, loose), ([()], []))

    def test_broken_by_what_is_loose_only(self):
        settings = [("dark", ("free", 0, 1, []), ("number", 0)), ("a", ("free", 0, 9, []), ("number", 5)),
                    ("b", SEALED, ("if", "dark", 1, 3, 8))]
        claim = Claim.at_least("b", 0, 4)
        self.assertEqual(self.assert_right(settings, claim), ([("dark",)], [("dark",)]))
        self.assertEqual(self.assert_right(settings, claim, ("a",)), ([("dark",)], [("dark",)]))
        self.assertEqual(self.assert_right(settings, claim, ("dark",)), ([()], []))

    def test_several_needed_at_once(self):
        names = ["d", "b", "a", "c"]
        settings = [(name, ("free", 0, 1, []), ("number", 0)) for name in names]
        settings += [("m", SEALED, ("min", ["a", "b"])), ("n", SEALED, ("min", ["b", "c", "d"]))]
        claim = Claim.at_most("m", 0, 0) & Claim.at_most("n", 0, 0)
        self.assertEqual(self.assert_right(settings, claim), ([("a", "b"), ("b", "c", "d")], [("b",), ("a", "c"), ("a", "d")]))
        self.assertEqual(self.assert_right(settings, claim, ("b",)), ([("a",), ("c", "d")], [("a", "c"), ("a", "d")]))
        self.assertEqual(self.assert_right(settings, claim, ("a", "b")), ([()], []))
        self.assertEqual(self.assert_right(settings, claim, ("c", "a")), ([("b",)], [("b",)]))

    def test_the_order_of_the_sets(self):
        settings = [(name, ("free", 0, 1, []), ("number", 0)) for name in "gfedcba"]
        settings.append(("z", SEALED, ("max", ["a", "b"])))
        claim = (Claim([[(0, "f", -1)]]) & Claim([[(0, "c", -1), (0, "g", -1)]]) & Claim([[(0, "b", -1), (0, "g", -1)]])
                 & Claim([[(0, "a", -1), (0, "d", -1), (0, "e", -1)]]) & Claim([[(0, "a", -1), (0, "c", -1)]]))
        self.assertEqual(self.assert_right(settings, claim), (
            [("f",), ("a", "c"), ("b", "g"), ("c", "g"), ("a", "d", "e")],
            [("a", "f", "g"), ("a", "b", "c", "f"), ("b", "c", "d", "f"), ("b", "c", "e", "f"), ("c", "d", "f", "g"),
             ("c", "e", "f", "g")]))

    def test_a_set_that_the_order_of_the_names_puts_first(self):
        """The number of the names counts before the names."""
        settings = [(name, ("free", 0, 1, []), ("number", 0)) for name in ("b", "a", "aa", "z")]
        claim = Claim([[(0, "z", -1)], [(0, "a", -1), (0, "aa", -1), (0, "b", -1)]])
        self.assertEqual(self.assert_right(settings, claim), ([("z",), ("a", "aa", "b")], [("a", "z"), ("aa", "z"), ("b", "z")]))

    def test_each_kind_of_open_setting(self):
        settings = [("a", ("free", 0, 1, []), ("number", 0)), ("b", ("sealed", None, None), ("number", 7)),
                    ("c", ("choice", ["a", "b"]), ("plus", "a", 0)), ("d", ("extend", ["b"]), ("max", ["c", -4])),
                    ("e", ("extend", []), ("min", ["d", 3]))]
        for claim, expected in [(Claim.at_most("c", 0, 1), [("c",)]), (Claim.at_most("d", 0, 1), [("c",), ("d",)]),
                                (Claim.at_least("e", 0, 0), [("e",)]), (Claim.at_most("e", 0, 2), [("c",), ("d",)]),
                                (Claim.at_most("e", 0, 0), [("a",), ("c",), ("d",)]), (Claim.equal("c", "a"), [("c",)])]:
            self.assertEqual(self.assert_right(settings, claim)[0], expected)
            for loose in subsets(open_names(settings)):
                self.assert_right(settings, claim, loose)

    def test_breaks_that_touch_a_setting_without_changing_another_one(self):
        """A layer touches each name of its set, also where a value is the same as before."""
        settings = [("a", FREE, ("number", 0)), ("b", FREE, ("number", 0))]
        claim = Claim.at_least("a", "b", 0)
        self.assertEqual(self.assert_right(settings, claim), ([("a",), ("b",)], [("a", "b")]))
        self.assertEqual(self.assert_right(settings, Claim.equal("a", "b")), ([("a",), ("b",)], [("a", "b")]))
        claim = Claim([[("a", 0, -1), (0, "b", -1)]])
        self.assertEqual(self.assert_right(settings, claim), ([("a", "b")], [("a",), ("b",)]))


class Reckoned(DualsTest):
    def test_many_books(self):
        maker = Maker(70)
        seen = {}
        for _ in range(250):
            settings = maker.settings()
            claim = maker.claim([setting[0] for setting in settings], 4, 3)
            for loose in ((), tuple(maker.some(open_names(settings)))):
                found, _ = self.assert_right(settings, claim, loose)
                seen[min(3, len(found))] = seen.get(min(3, len(found)), 0) + 1
        self.assertEqual(set(seen), {0, 1, 2, 3})

    def test_small_books_against_all_plain_layers(self):
        """Each layer of plain numbers that breaks the claim touches all settings of a minimal break."""
        maker = SmallMaker(71)
        for _ in range(60):
            settings = maker.small_settings(maker.dice.randint(2, 4))
            names = [setting[0] for setting in settings]
            layers = [({row[1] for row in layer}, model_values(model_after(settings, layer)))
                      for layer in plain_layers(settings, range(-2, 3))]
            for _ in range(6):
                claim = maker.claim(names)
                loose = tuple(maker.some(open_names(settings))) if maker.dice.random() < 0.5 else ()
                found, saved = self.assert_right(settings, claim, loose)
                for touching, values in layers:
                    if not model_holds(claim.conflicts, values):
                        self.assertTrue(any(set(broken) <= touching for broken in found))
                        self.assertTrue(all(touching & set(names) for names in saved))

    def test_against_all_numbers_for_three_open_settings(self):
        """The sets that layers of plain numbers can break with are just those that contain a minimal break."""
        maker = SmallMaker(72)
        for _ in range(60):
            settings = maker.small_settings(4)
            settings = model_sealed(settings, open_names(settings)[2:])
            opened = open_names(settings)
            layers = [({row[1] for row in layer}, model_values(model_after(settings, layer)))
                      for layer in plain_layers(settings, range(-12, 13))]
            for _ in range(4):
                claim = maker.claim([setting[0] for setting in settings])
                broken = [names for names in subsets(opened) if any(
                    touching <= set(names) and not model_holds(claim.conflicts, values) for touching, values in layers)]
                found, _ = self.assert_right(settings, claim)
                self.assertEqual(found, minimal(broken), (settings, claim.conflicts))

    def test_equal_calls_and_new_lists(self):
        maker = Maker(73)
        for _ in range(60):
            settings = maker.settings()
            claim = maker.claim([setting[0] for setting in settings])
            loose = maker.some(open_names(settings))
            for call in (breaks, seals):
                expected = repr(call(Book(settings), claim, loose=tuple(loose)))
                result = call(loose=list(loose), claim=Claim(claim.conflicts), book=Book(settings))
                self.assertEqual(repr(result), expected)
                for _, shown in result:
                    shown.clear()
                result.clear()
                self.assertEqual(repr(call(Book(settings), claim, loose=loose)), expected)
            self.assertIs(type(holds(Book(settings), claim)), bool)


class Loose(DualsTest):
    def test_lists_and_tuples_in_any_order(self):
        names = ["ground", "link", "edge"]
        for count in range(4):
            for loose in itertools.permutations(names, count):
                for call in (breaks, seals):
                    expected = repr(call(theme(), EXAMPLE, loose=tuple(sorted(loose))))
                    self.assertEqual([names for names, _ in call(theme(), EXAMPLE, loose=list(loose))],
                                     [names for names, _ in call(theme(), EXAMPLE, loose=loose)])
                    if loose == tuple(sorted(loose)):
                        self.assertEqual(repr(call(theme(), EXAMPLE, loose=list(loose))), expected)

    def test_no_loose_settings(self):
        for call in (breaks, seals):
            expected = repr(call(theme(), EXAMPLE))
            self.assertEqual(repr(call(theme(), EXAMPLE, loose=())), expected)
            self.assertEqual(repr(call(theme(), EXAMPLE, loose=[])), expected)
            self.assertEqual(repr(call(book=theme(), claim=EXAMPLE)), expected)

    def test_wrong_lists(self):
        wrong = [odd for odd in odd_objects() if odd not in ([], (), ["ground"], ("ground",))]
        for kind in (list, tuple):
            wrong += [kind(names) for names in [
                ["ground", "ground"], ["link", "edge", "link"], ["text"], ["ground", "text"], ["no"], ["ground", "no"], [""],
                ["ground", None], [0], [True], [["ground"]], [("ground",)], [{}], ["ground", []], [theme()], [EXAMPLE],
                ["Ground"], ["g"]]]
        wrong += ["link", "edge", {"ground": "link"}, ("ground", ["link"]), [["ground", "link"]]]
        for loose in wrong:
            for call in (breaks, seals):
                for claim in (EXAMPLE, Claim([])):
                    with self.subTest(call=call.__name__, loose=loose), self.assertRaises(InvalidList) as caught:
                        call(theme(), claim, loose=loose)
                    self.assertIs(caught.exception.value, loose)

    def test_sealed_settings_of_a_layer_are_not_loose(self):
        later = theme() + [("seal", "ground")]
        for call in (breaks, seals):
            with self.assertRaises(InvalidList):
                call(later, EXAMPLE, loose=["ground"])
            self.assertTrue(isinstance(call(later, EXAMPLE, loose=["link"]), list))
            with self.assertRaises(InvalidList):
                call(Book([]), Claim([]), loose=["ground"])

    def test_the_errors_in_their_order(self):
        wrong = ["no", []]
        for call in (breaks, seals):
            for book, claim, kind, field in [(None, None, InvalidBook, None), (THEME, EXAMPLE, InvalidBook, THEME),
                                             (theme(), wrong, InvalidClaim, wrong),
                                             (theme(), Claim([[("no", 0, 0)]]), UnknownName, "no"), (theme(), EXAMPLE, InvalidList, wrong)]:
                with self.assertRaises(kind) as caught:
                    call(loose=wrong, claim=claim, book=book)
                self.assertIs(vars(caught.exception)["name" if kind is UnknownName else "value"], field)

    def test_by_name_alone(self):
        for call in (breaks, seals):
            with self.assertRaises(TypeError):
                call(theme(), EXAMPLE, ())

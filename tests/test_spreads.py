"""Points 50 to 52: spread, risk, layer_to and safe_limits."""

import itertools
import unittest

from laterthemes.books import Book
from laterthemes.claims import Claim
from laterthemes.errors import InvalidBook, InvalidClaim, InvalidNumber, UnknownName
from laterthemes.spreads import layer_to, risk, safe_limits, spread
from laterthemes.verdicts import verdict
from tests.reckoning import (
    is_stretches, left_by, model_breaks, model_end, model_holds, model_sealed, model_size, model_stretches, open_names,
    plain_layers)
from tests.samples import NOT_WHOLE
from tests.support import THEME, Maker, SmallMaker, model_after, model_values, odd_objects, theme

FREE = ("free", None, None, [])
SEALED = ("sealed", None, None)
BIG = 10 ** 40 - 1
NEVER = Claim([[(0, 0, 0)]])
SURE = Claim([])
CONTRAST = Claim.contrast("text", "ground", 45)


def wrong_ends():
    """Objects that are neither 0 nor the name of a setting of the theme."""
    odd = [value for value in odd_objects() if isinstance(value, bool) or value not in (0, "ground")]
    return odd + ["no", "Ground", "grounds", "", "0", 1, -1, BIG, False, ["ground"], ("ground",), [0], (0,), {0: 0}, None]


def sized(maker, count):
    """This many lists of settings, none of them beyond the size of point 3."""
    while count:
        settings = maker.settings()
        if model_size(settings) <= 600:
            count -= 1
            yield settings


class Examples(unittest.TestCase):
    def test_of_the_document(self):
        from laterthemes.spreads import layer_to, risk, safe_limits, spread
        theme = Book(THEME)
        self.assertEqual(
            [spread(theme, "text"), spread(theme, "text", "ground"), spread(theme, "edge"),
             risk(theme, Claim.contrast("text", "ground", 45), "ground"), layer_to(theme, "text", "ground", 0),
             safe_limits(theme, Claim.contrast("text", "ground", 45) & Claim.at_most("ground", 0, 90), "ground")],
            [[(10, 10), (90, 90)], [(-90, -40), (41, 90)], [(30, None)], [(46, 54)], None, [(0, 45), (55, 90)]])


class SpreadTest(unittest.TestCase):
    def assert_spread(self, expected, settings, *ends):
        before = repr(settings)
        book = Book(settings)
        result = spread(book, *ends)
        self.assertEqual(result, expected)
        self.assertTrue(is_stretches(result), result)
        self.assertEqual(spread(*ends[1:], one=ends[0],
                                book=book) if len(ends) == 1 else spread(other=ends[1], one=ends[0], book=book),
                         expected)
        # The claim that never holds risks everything, and the one that always holds nothing.
        self.assertEqual(risk(book, NEVER, *ends), expected)
        self.assertEqual(risk(book, SURE, *ends), [])
        self.assertEqual((repr(settings), repr(book.settings())), (before, before))
        self.assert_layers(settings, expected, ends[0], ends[1] if len(ends) > 1 else 0)

    def assert_layers(self, settings, stretches, one, other):
        """There is a layer for each number at the ends of the stretches, and none for those beside them."""
        book = Book(settings)
        numbers = {number + k for stretch in stretches for number in stretch if number is not None for k in (-1, 0, 1)}
        for number in sorted(numbers | {0, 7, -BIG, BIG}):
            possible = any((low is None or low <= number) and (high is None or number <= high) for low, high in stretches)
            layer = layer_to(book, one, other, number)
            self.assertEqual(layer is not None, possible, number)
            if possible:
                self.assertIs(type(layer), list)
                values = model_values(model_after(settings, layer))
                self.assertEqual(model_end(one, values) - model_end(other, values), number)

    def assert_safe_and_wide(self, settings, claim, name, limits):
        """With the limits the claim is sure; with wider ones, within those of the setting, it is not."""
        at = [setting[0] for setting in settings].index(name)
        _, (_, low, high, names), definition = settings[at]

        def word(new_low, new_high):
            changed = (name, ("free", new_low, new_high, names), definition)
            return verdict(Book(settings[:at] + [changed] + settings[at + 1:]), claim)[0]

        self.assertTrue(is_stretches(limits) or limits == [], limits)
        for first, last in limits:
            self.assertEqual(word(first, last), "sure")
            if first != low:
                self.assertEqual([word(first - 1, first - 1), word(first - 1, last)], ["breaks", "breaks"])
            if last != high:
                self.assertEqual([word(last + 1, last + 1), word(first, last + 1)], ["breaks", "breaks"])
        if not limits:
            self.assertEqual(word(low, high), "breaks")


class Spreads(SpreadTest):
    def test_each_kind_of_setting(self):
        base = [("a", ("free", 2, 9, []), ("number", 5)), ("b", ("free", None, 20, []), ("number", 5))]
        for permission, definition, expected in [
                (("free", 3, 8, ["a"]), ("number", 0), [(3, 8)]), (("free", 3, None, []), ("number", 0), [(3, None)]),
                (("free", None, 3, []), ("number", 0), [(None, 3)]), (FREE, ("plus", "a", 0), [(None, None)]),
                (("free", 4, 4, []), ("number", 0), [(4, 4)]), (("free", -BIG, BIG, []), ("number", 0), [(-BIG, BIG)]),
                (("choice", ["a"]), ("plus", "a", 0), [(2, 9)]), (("choice", ["a", "b"]), ("plus", "a", 0), [(None, 20)]),
                (("extend", []), ("max", ["a", -3]), [(2, None)]), (("extend", ["b"]), ("min", ["a", 5]), [(None, 5)]),
                (("extend", []), ("max", [7, "a"]), [(7, None)]), (SEALED, ("number", 6), [(6, 6)]),
                (("sealed", 7, 9), ("number", 6), [(7, 7)]), (("sealed", 7, 9), ("plus", "a", 0), [(7, 9)]),
                (SEALED, ("plus", "a", -4), [(-2, 5)]), (SEALED, ("max", ["a", 4]), [(4, 9)]),
                (SEALED, ("min", ["a", "b"]), [(None, 9)]),
                (SEALED, ("if", "a", 5, 0, 7), [(0, 0), (7, 7)]), (SEALED, ("if", "a", 10, 0, "b"), [(None, 20)]),
                (SEALED, ("if", "a", 6, "a", 1), [(1, 1), (6, 9)]), (("sealed", 3, 8), ("if", "a", 6, "a", 1), [(3, 3), (6, 8)])]:
            with self.subTest(permission=permission, definition=definition):
                self.assert_spread(expected, base + [("s", permission, definition)], "s")
                self.assert_spread([(None if high is None else -high, None if low is None else -low) for low,
                                    high in expected][::-1],
                                   [("s", permission, definition)] + base, 0, "s")

    def test_ends(self):
        for ends in [(0,), (0, 0), ("ground", "ground"), ("edge", "edge")]:
            self.assert_spread([(0, 0)], THEME, *ends)
        self.assert_spread([(0, 0)], [], 0)
        self.assert_spread([(0, 0)], [], 0, 0)
        self.assert_spread([(0, 100)], THEME, "ground")
        self.assert_spread([(0, 100)], THEME, "ground", 0)
        self.assert_spread([(-100, 0)], THEME, 0, "ground")
        self.assertIs(type(spread(theme(), 0)[0][0]), int)

    def test_differences(self):
        self.assert_spread([(-90, -40), (41, 90)], THEME, "text", "ground")
        self.assert_spread([(-90, -41), (40, 90)], THEME, "ground", "text")
        self.assert_spread([(-70, None)], THEME, "edge", "link")
        self.assert_spread([(0, None)], THEME, "edge", "text")
        settings = [("a", FREE, ("number", 0)), ("b", SEALED, ("plus", "a", 7)), ("c", ("choice", ["b", "a"]), ("plus", "b", 0))]
        self.assert_spread([(7, 7)], settings, "b", "a")
        self.assert_spread([(0, 0), (7, 7)], settings, "c", "a")
        self.assert_spread([(None, None)], settings, "c")

    def test_a_setting_that_is_sealed_in_a_layer(self):
        later = model_after(THEME, [("set", "ground", ("number", 20)), ("seal", "ground")])
        self.assert_spread([(90, 90)], later, "text")
        self.assert_spread([(20, 20)], later, "ground")
        self.assert_spread([(10, 10), (90, 90)], model_after(THEME, [("set", "ground", ("number", 20))]), "text")

    def test_stretches_that_meet_are_one(self):
        """Between two stretches one number at least is not possible."""
        for first, second, expected in [(2, 3, [(1, 4)]), (1, 4, [(1, 4)]), (4, 6, [(1, 6)]), (5, 6, [(1, 6)]),
                                        (6, 7, [(1, 4), (6, 7)]),
                                        (-1, 0, [(-1, 4)]), (-2, -1, [(-2, -1), (1, 4)]), (0, 5, [(0, 5)]), (5, 5, [(1, 5)]),
                                        (6, 6, [(1, 4), (6, 6)]), (-1, 1, [(-1, 4)]), (0, 0, [(0, 4)])]:
            settings = [("a", ("free", 1, 4, []), ("number", 1)), ("b", ("free", first, second, []), ("number", 0)),
                        ("c", ("choice", ["a", "b"]), ("plus", "a", 0)), ("d", ("choice", ["b", "a"]), ("plus", "a", 0))]
            self.assert_spread(expected, settings, "c")
            self.assert_spread(expected, settings, "d")

    def test_several_stretches(self):
        settings = [("a", ("free", 0, 3, []), ("number", 0))]
        settings += [(name, SEALED, ("number", k)) for name, k in [("b", 20), ("c", 10), ("d", 4), ("e", 11), ("f", 30)]]
        for count in range(1, 6):
            names = "abcdef"[:count + 1]
            choice = ("s", ("choice", list(names)), ("plus", "a", 0))
            values = sorted({0, 1, 2, 3} | {[20, 10, 4, 11, 30]["bcdef".index(name)] for name in names[1:]})
            expected = []
            for value in values:
                if expected and expected[-1][1] == value - 1:
                    expected[-1] = (expected[-1][0], value)
                else:
                    expected.append((value, value))
            self.assert_spread(expected, settings + [choice], "s")

    def test_stretches_without_an_end(self):
        base = [("a", ("free", None, 3, []), ("number", 0)), ("b", ("free", 7, None, []), ("number", 0)),
                ("c", ("free", 5, 5, []), ("number", 0)), ("d", ("free", 4, None, []), ("number", 0)),
                ("e", ("free", None, 9, []), ("number", 0))]
        for names, expected in [("ab", [(None, 3), (7, None)]), ("abc", [(None, 3), (5, 5), (7, None)]), ("ad", [(None, None)]),
                                ("be", [(None, None)]), ("ac", [(None, 3), (5, 5)]), ("cb", [(5, 5), (7, None)]),
                                ("bd", [(4, None)]),
                                ("ae", [(None, 9)]), ("bdc", [(4, None)]), ("cae", [(None, 9)]), ("abcde", [(None, None)])]:
            self.assert_spread(expected, base + [("s", ("choice", list(names)), ("plus", names[0], 0))], "s")

    def test_long_numbers(self):
        settings = [("a", ("free", -BIG, BIG, []), ("number", 0)), ("b", SEALED, ("plus", "a", BIG)),
                    ("c", SEALED, ("if", "a", BIG, -BIG, BIG)), ("d", SEALED, ("if", "a", 0, "a", -BIG))]
        self.assert_spread([(0, 2 * BIG)], settings, "b")
        self.assert_spread([(-BIG, -BIG), (BIG, BIG)], settings, "c")
        self.assert_spread([(-BIG, -BIG), (0, BIG)], settings, "d")
        self.assert_spread([(-2 * BIG, -2 * BIG), (1, 2 * BIG)], settings, "c", "a")

    def test_other_is_0_where_it_is_left_out(self):
        for name in theme().names():
            self.assertEqual(spread(theme(), name), spread(theme(), name, 0))
            self.assertEqual(risk(theme(), CONTRAST, name), risk(theme(), CONTRAST, name, 0))


class Risks(SpreadTest):
    def assert_risk(self, expected, settings, claim, *ends):
        book, before = Book(settings), repr(claim.conflicts)
        self.assertEqual(risk(book, claim, *ends), expected)
        self.assertEqual(risk(**dict(zip(("one", "other"), ends)), claim=claim, book=book), expected)
        self.assertEqual(repr(claim.conflicts), before)
        self.assertEqual(verdict(book, claim)[0], "breaks" if expected else "sure")

    def test_at_the_edge(self):
        self.assert_risk([(46, 54)], THEME, CONTRAST, "ground")
        self.assert_risk([(10, 10), (90, 90)], THEME, CONTRAST, "text")
        self.assert_risk([(-44, -40), (41, 44)], THEME, CONTRAST, "text", "ground")
        self.assert_risk([], THEME, Claim.contrast("text", "ground", 40), "ground")
        self.assert_risk([(50, 50)], THEME, Claim.contrast("text", "ground", 41), "ground")
        self.assert_risk([(49, 51)], THEME, Claim.contrast("text", "ground", 42), "ground")
        self.assert_risk([(-41, -40), (41, 41)], THEME, Claim.contrast("text", "ground", 42), "text", "ground")

    def test_each_conflict_counts(self):
        settings = [("a", ("free", 0, 20, []), ("number", 0)), ("b", ("free", 0, 20, []), ("number", 0))]
        parts = [[("a", 0, 3)], [("a", 0, 5), (0, "a", -5)], [(0, "a", -18), ("b", 0, 2)], [("a", 0, 4), (0, "a", -5)]]
        for count in range(5):
            for chosen in itertools.combinations(range(4), count):
                numbers = sorted({n for at in chosen for n in ([0, 1, 2, 3], [5], [18, 19, 20], [])[at]})
                self.assertEqual(sum(([*range(low, high + 1)] for low,
                                      high in risk(Book(settings), Claim([parts[at] for at in chosen]), "a")), []), numbers)
        self.assert_risk([(0, 3), (5, 5), (18, 20)], settings, Claim(parts), "a")
        self.assert_risk([(0, 3), (5, 5), (18, 20)], settings, Claim(parts[::-1]), "a")
        self.assert_risk([(0, 20)], settings, Claim(parts), "b")
        self.assert_risk([(0, 2)], settings, Claim(parts[2:]), "b")

    def test_ends_that_the_claim_does_not_name(self):
        claim = Claim.at_most("ground", 0, 60)
        self.assert_risk([(10, 10)], THEME, claim, "text")
        self.assert_risk([(0, 100)], THEME, claim, "link")
        self.assert_risk([(30, None)], THEME, claim, "edge")
        self.assert_risk([(0, 0)], THEME, claim, 0)
        self.assert_risk([(0, 0)], THEME, claim, "edge", "edge")
        self.assert_risk([], THEME, Claim.at_most("ground", 0, 100), 0)

    def test_without_an_end(self):
        settings = [("a", FREE, ("number", 0)), ("b", ("extend", []), ("max", ["a"]))]
        self.assert_risk([(None, -1)], settings, Claim.at_least("a", 0, 0), "a")
        self.assert_risk([(8, None)], settings, Claim.at_most("a", 0, 7), "a")
        self.assert_risk([(None, 3), (9, None)], settings, Claim.at_least("a", 0, 4) & Claim.at_most("a", 0, 8), "a")
        self.assert_risk([(None, None)], settings, Claim.at_most("b", 0, 7), "a")
        self.assert_risk([(8, None)], settings, Claim.at_most("b", 0, 7), "b")
        self.assert_risk([(1, None)], settings, Claim.at_least("a", "b", 0), "b", "a")


class LayersTo(SpreadTest):
    def test_any_kind_of_open_setting(self):
        settings = [("a", ("free", 0, 9, []), ("number", 0)), ("b", ("choice", ["a", "e"]), ("plus", "a", 0)),
                    ("c", ("extend", []), ("max", ["b", 2])), ("d", SEALED, ("min", ["c", 6])), ("e", SEALED, ("number", 30))]
        for one, other, numbers in [("a", 0, range(0, 10)), ("b", 0, [*range(0, 10), 30]), ("c", 0, range(2, 60)),
                                    ("d", 0, range(2, 7)),
                                    ("b", "a", [0, *range(21, 31)]), ("d", "c", range(-40, 1)), ("e", "a", range(21, 31)),
                                    (0, "e", [-30])]:
            for number in range(-40, 60):
                layer = layer_to(Book(settings), one, other, number)
                self.assertEqual(layer is not None, number in numbers, (one, other, number))
                if layer is not None:
                    values = model_values(model_after(settings, layer))
                    self.assertEqual(model_end(one, values) - model_end(other, values), number)

    def test_ends(self):
        for end in (0, "ground", "edge"):
            for number in (1, -1, BIG):
                self.assertIsNone(layer_to(theme(), end, end, number))
            self.assertIsNotNone(layer_to(theme(), end, end, 0))
        self.assertEqual(layer_to(Book([]), 0, 0, 0), [])
        self.assertIsNone(layer_to(Book([]), 0, 0, 1))
        self.assertIsNone(layer_to(theme(), "text", 0, 11))
        self.assertEqual(layer_to(Book([("a", SEALED, ("number", 4))]), "a", 0, 4), [])

    def test_arguments_by_name(self):
        expected = layer_to(theme(), "text", "ground", 41)
        self.assertEqual(layer_to(number=41, other="ground", one="text", book=theme()), expected)
        self.assertEqual((theme() + expected)["text"] - (theme() + expected)["ground"], 41)
        self.assertIsNone(layer_to(theme(), "text", number=41, other=0))

    def test_wrong_numbers(self):
        for number in NOT_WHOLE:
            with self.subTest(number=number), self.assertRaises(InvalidNumber) as caught:
                layer_to(theme(), "text", 0, number)
            self.assertIs(caught.exception.value, number)


class SafeLimits(SpreadTest):
    def assert_limits(self, expected, settings, claim, name):
        book = Book(settings)
        self.assertEqual(safe_limits(book, claim, name), expected)
        self.assertEqual(safe_limits(name=name, claim=claim, book=book), expected)
        self.assert_safe_and_wide(settings, claim, name, expected)

    def test_of_the_document(self):
        self.assert_limits([(0, 45), (55, 90)], THEME, CONTRAST & Claim.at_most("ground", 0, 90), "ground")
        self.assert_limits([(0, 45), (55, 100)], THEME, CONTRAST, "ground")

    def test_all_and_none(self):
        for low, high in [(0, 9), (None, 9), (0, None), (None, None), (4, 4)]:
            settings = [("a", ("free", low, high, []), ("number", 5)), ("b", ("free", 0, 0, ["a"]), ("plus", "a", 0))]
            self.assert_limits([(low, high)], settings, SURE, "a")
            self.assert_limits([(low, high)], settings, Claim.equal("b", 0), "a")
            self.assert_limits([], settings, NEVER, "a")
            self.assert_limits([], settings, Claim.at_least("b", 0, 1), "a")
            self.assert_limits([(0, 0)], settings, SURE, "b")

    def test_at_the_limits_of_the_setting(self):
        for low, high in [(0, 9), (None, 9), (0, None), (None, None)]:
            settings = [("a", ("free", low, high, []), ("number", 5))]
            for k in (0, 1, 5, 8, 9):
                self.assert_limits([(low, k)], settings, Claim.at_most("a", 0, k), "a")
                self.assert_limits([(k, high)], settings, Claim.at_least("a", 0, k), "a")
                parts = ([(low, k - 1)] if k > 0 or low is None else []) + ([(k + 1, high)] if k < 9 or high is None else [])
                self.assert_limits(parts, settings, Claim([[("a", 0, k), (0, "a", -k)]]), "a")

    def test_single_numbers(self):
        settings = [("a", ("free", 0, 6, []), ("number", 5))]
        claim = Claim([[("a", 0, k), (0, "a", -k)] for k in (1, 3, 5)])
        self.assert_limits([(0, 0), (2, 2), (4, 4), (6, 6)], settings, claim, "a")
        claim = Claim([[("a", 0, k), (0, "a", -k)] for k in (0, 2, 3, 6)])
        self.assert_limits([(1, 1), (4, 5)], settings, claim, "a")

    def test_wrong_names(self):
        odd = wrong_ends() + ["text", "edge", 0]
        for name in odd:
            with self.subTest(name=name), self.assertRaises(UnknownName) as caught:
                safe_limits(theme(), CONTRAST, name)
            self.assertIs(caught.exception.name, name)
        for name in ("ground", "link"):
            self.assertIs(type(safe_limits(theme(), CONTRAST, name)), list)
        settings = [("a", FREE, ("number", 0)), ("b", ("choice", ["a"]), ("plus", "a", 0)), ("c", ("extend", []), ("max", [1]))]
        for name in ("b", "c"):
            with self.assertRaises(UnknownName):
                safe_limits(Book(settings), SURE, name)
        with self.assertRaises(UnknownName) as caught:
            safe_limits(theme() + [("seal", "ground")], CONTRAST, "ground")
        self.assertEqual(caught.exception.name, "ground")


class Reckoned(SpreadTest):
    def test_many_books_against_a_second_reckoning(self):
        maker = Maker(90)
        counts = set()
        for settings in sized(maker, 250):
            book, names = Book(settings), [setting[0] for setting in settings]
            claim = maker.claim(names)
            for _ in range(3):
                one, other = maker.end(names), maker.end(names)
                expected = model_stretches(settings, [[]], one, other)
                self.assertEqual(spread(book, one, other), expected, (settings, one, other))
                counts.add(len(expected))
                expected = model_stretches(settings, claim.conflicts, one, other)
                self.assertEqual(risk(book, claim, one, other), expected, (settings, claim.conflicts, one, other))
            for name in [setting[0] for setting in settings if setting[1][0] == "free"]:
                low, high = book.setting(name)[1][1:3]
                expected = left_by(low, high, risk(book, claim, name))
                self.assertEqual(safe_limits(book, claim, name), expected)
                self.assert_safe_and_wide(settings, claim, name, expected)
        self.assertLessEqual({1, 2, 3}, counts)

    def test_small_books_against_many_layers(self):
        """All that layers of plain numbers bring about is possible, and near 0 nothing else."""
        maker = SmallMaker(91)
        for _ in range(100):
            settings = maker.small_settings(4)
            settings = model_sealed(settings, open_names(settings)[2:])
            names = [setting[0] for setting in settings]
            values = [model_values(model_after(settings, layer)) for layer in plain_layers(settings, range(-12, 13))]
            book, claim = Book(settings), maker.claim(names)
            broken = [row for row in values if not model_holds(claim.conflicts, row)]
            for one, other in itertools.combinations([0] + names, 2):
                for rows, result in [(values, spread(book, one, other)), (broken, risk(book, claim, one, other))]:
                    reached = {model_end(one, row) - model_end(other, row) for row in rows}
                    for number in range(-30, 31):
                        within = any((low is None or low <= number) and (high is None or number <= high) for low, high in result)
                        self.assertTrue(within or number not in reached, (settings, one, other, number))
                        self.assertTrue(not within or number in reached or abs(number) > 5, (settings, one, other, number))

    def test_layers_for_each_number(self):
        maker = Maker(92)
        for settings in sized(maker, 120):
            names = [setting[0] for setting in settings]
            one, other = maker.end(names), maker.end(names)
            self.assert_layers(settings, spread(Book(settings), one, other), one, other)

    def test_risk_by_verdicts(self):
        """A number is at risk just if the claim breaks together with it."""
        maker = Maker(93)
        for settings in sized(maker, 80):
            book, names = Book(settings), [setting[0] for setting in settings]
            claim = maker.claim(names, 2, 2)
            one, other = maker.end(names), maker.end(names)
            result = risk(book, claim, one, other)
            numbers = {k + d for stretch in result for k in stretch if k is not None for d in (-1, 0, 1)} | {0}
            for number in numbers:
                narrow = Claim([conflict + [(one, other, number), (other, one, -number)] for conflict in claim.conflicts])
                word, shown = verdict(book, narrow)
                within = any((low is None or low <= number) and (high is None or number <= high) for low, high in result)
                self.assertEqual(word, "breaks" if within else "sure")
                self.assertTrue(word == "sure" or model_breaks(settings, claim.conflicts, shown))

    def test_equal_calls_and_new_lists(self):
        claim = CONTRAST & Claim.at_most("ground", 0, 90)
        for call in (lambda: spread(theme(), "text", "ground"), lambda: risk(theme(), claim, "ground"),
                     lambda: layer_to(theme(), "edge", 0, 50),
                     lambda: safe_limits(theme(), claim, "ground")):
            expected = repr(call())
            result = call()
            result.append(None)
            result[0] = None
            self.assertEqual(repr(call()), expected)
            self.assertIsNot(call(), call())


class Errors(unittest.TestCase):
    def assert_raises(self, kind, field, value, call, *arguments, **named):
        with self.assertRaises(kind) as caught:
            call(*arguments, **named)
        self.assertIs(type(caught.exception), kind)
        self.assertIs(getattr(caught.exception, field), value)

    def test_no_book(self):
        for book in odd_objects() + [THEME]:
            if not isinstance(book, Book):
                for call, rest in [(spread, ([], [])), (risk, (None, [], [])), (layer_to, ([], [], None)),
                                   (safe_limits, (None, [])),
                                   (spread, ("text",)), (risk, (CONTRAST, "text")), (layer_to, ("text", 0, 1)),
                                   (safe_limits, (CONTRAST, "ground"))]:
                    self.assert_raises(InvalidBook, "value", book, call, book, *rest)

    def test_no_claim(self):
        for claim in odd_objects() + [CONTRAST.conflicts]:
            if not isinstance(claim, Claim):
                for call, rest in [(risk, ([], [])), (safe_limits, ([],)), (risk, ("text",)), (safe_limits, ("ground",))]:
                    self.assert_raises(InvalidClaim, "value", claim, call, theme(), claim, *rest)

    def test_unknown_names_in_a_claim(self):
        claim = Claim([[("ground", "text", 0)], [(0, "no", 3), ("yes", 0, 1)]])
        for call, rest in [(risk, ([], [])), (safe_limits, ([],)), (risk, ("other",)), (safe_limits, ("ground",))]:
            with self.assertRaises(UnknownName) as caught:
                call(theme(), claim, *rest)
            self.assertEqual(caught.exception.name, "no")

    def test_wrong_ends(self):
        for end in wrong_ends():
            for good in (0, "text"):
                self.assert_raises(UnknownName, "name", end, spread, theme(), end)
                self.assert_raises(UnknownName, "name", end, spread, theme(), end, good)
                self.assert_raises(UnknownName, "name", end, spread, theme(), good, end)
                self.assert_raises(UnknownName, "name", end, risk, theme(), CONTRAST, end)
                self.assert_raises(UnknownName, "name", end, risk, theme(), SURE, end, good)
                self.assert_raises(UnknownName, "name", end, risk, theme(), CONTRAST, good, end)
                self.assert_raises(UnknownName, "name", end, layer_to, theme(), end, good, 0)
                self.assert_raises(UnknownName, "name", end, layer_to, theme(), good, end, 0)

    def test_the_first_wrong_argument(self):
        one, other = ["text"], {"text": 0}
        self.assert_raises(UnknownName, "name", one, spread, other=other, one=one, book=theme())
        self.assert_raises(UnknownName, "name", one, risk, other=other, one=one, claim=SURE, book=theme())
        self.assert_raises(UnknownName, "name", one, layer_to, number=None, other=other, one=one, book=theme())
        self.assert_raises(UnknownName, "name", other, layer_to, number=None, other=other, one=0, book=theme())
        self.assert_raises(InvalidNumber, "value", other, layer_to, number=other, other=0, one=0, book=theme())
        self.assert_raises(UnknownName, "name", "text", spread, Book([]), "text")
        self.assert_raises(UnknownName, "name", "text", layer_to, Book([]), 0, "text", None)

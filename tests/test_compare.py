"""Points 60 to 64: pair books, equivalent and different books, settled settings, redundant operands."""

import copy
import itertools
import unittest

from laterthemes.books import Book
from laterthemes.claims import Claim
from laterthemes.compare import check_different, check_equivalent, compare, freeze, pair_book, redundant, settled, trim
from laterthemes.errors import InvalidBook, MismatchedBooks, UnknownName
from laterthemes.verdicts import check_evidence, verdict
from tests.reckoning import is_tidy, model_is_evidence, model_sealed, model_size, open_names, plain_layers
from tests.support import THEME, Maker, SmallMaker, model_after, model_values, odd_objects, theme

FREE = ("free", None, None, [])
SEALED = ("sealed", None, None)
BIG = 10 ** 40 - 1
SWAPPED = [THEME[0], ("text", SEALED, ("if", 49, "ground", 90, 10)), THEME[2], THEME[3]]
OFF_BY_ONE = [THEME[0], ("text", SEALED, ("if", 50, "ground", 90, 10)), THEME[2], THEME[3]]
WIDE = THEME + [("rim", SEALED, ("max", ["text", 10, 9]))]


def changed_at(settings, at, *parts):
    return settings[:at] + [parts] + settings[at + 1:]


def model_pair(one, other, name):
    """The settings of the pair book."""
    sealed = model_sealed(one, [name]) if name in open_names(one) else list(one)
    names = [setting[0] for setting in one]
    new = next("z" * count for count in range(1, 11) if "z" * count not in names)
    permission = {setting[0]: setting[1] for setting in sealed}[name]
    return sealed + [(new, permission, {setting[0]: setting[2] for setting in other}[name])]


def model_different(one, other, layer):
    """Whether a layer of rows of the form of point 20 is allowed and some setting has different values after it."""
    after = model_after(one, layer)
    return isinstance(after, list) and model_values(after) != model_values(model_after(other, layer))


def model_equal_conflicts(pair, name):
    return [[(name, pair[-1][0], -1)], [(pair[-1][0], name, -1)]]


def without(settings, name, index):
    at = [setting[0] for setting in settings].index(name)
    _, permission, (word, operands) = settings[at]
    return changed_at(settings, at, name, permission, (word, operands[:index] + operands[index + 1:]))


def operand_places(settings):
    """The places of all operands of definitions `max` and `min` that have at least two operands."""
    return [(name, index) for name, _, definition in settings if definition[0] in ("max", "min") and len(definition[1]) > 1
            for index in range(len(definition[1]))]


class CompareTest(unittest.TestCase):
    def assert_right(self, one, other):
        """The answer is right by what shows it; returns its first item."""
        before = repr((one, other))
        books = Book(one), Book(other)
        result = compare(*books)
        self.assertEqual(repr(result), repr(compare(other=books[1], one=books[0])))
        self.assertEqual(repr((one, other, books[0].settings(), books[1].settings())), before[:-1] + ", " + before[1:])
        self.assertEqual((type(result), len(result), type(result[1])), (tuple, 2, list))
        word, shown = result
        if word == "equivalent":
            self.assertEqual(len(shown), len(one))
            for (name, _, _), evidence in zip(one, shown):
                pair = model_pair(one, other, name)
                self.assertTrue(model_is_evidence(pair, model_equal_conflicts(pair, name), evidence), (one, other, name))
                self.assertTrue(all(is_tidy(tree) for tree in evidence))
            self.assertIs(check_equivalent(*books, shown), True)
            self.assertIs(check_equivalent(shown=shown, other=books[1], one=books[0]), True)
        else:
            self.assertEqual(word, "different")
            self.assertTrue(model_different(one, other, shown), (one, other, shown))
            self.assertIs(check_different(*books, shown), True)
            self.assertIs(check_different(layer=shown, other=books[1], one=books[0]), True)
        return word


class Examples(CompareTest):
    def test_of_the_document(self):
        from laterthemes.compare import compare, redundant, settled
        theme = Book(THEME)
        swapped = Book([theme.setting("ground"), ("text", ("sealed", None, None), ("if", 49, "ground", 90, 10)),
                        theme.setting("link"), theme.setting("edge")])
        wide = Book(theme.settings() + [("rim", ("sealed", None, None), ("max", ["text", 10, 9]))])
        self.assertEqual([compare(theme, swapped)[0], redundant(wide), settled(wide)],
                         ["equivalent", [("rim", 1), ("rim", 2)], ["ground"]])
        self.assertEqual(self.assert_right(THEME, SWAPPED), "equivalent")
        self.assertEqual(self.assert_right(THEME, OFF_BY_ONE), "different")


class PairBooks(unittest.TestCase):
    def test_each_kind_of_setting(self):
        one = [("a", ("free", 1, 9, ["b"]), ("number", 20)), ("b", ("sealed", None, 4), ("number", 3)),
               ("c", ("choice", ["a", "b"]), ("plus", "a", 0)), ("d", ("extend", ["a"]), ("max", ["c", 1]))]
        other = [("a", ("free", 1, 9, ["b"]), ("max", [1, 2])), ("b", ("sealed", None, 4), ("min", [8, 3])),
                 ("c", ("choice", ["a", "b"]), ("plus", "b", 0)), ("d", ("extend", ["a"]), ("max", [7, "c", 7]))]
        sealed = {"a": ("sealed", 1, 9), "b": ("sealed", None, 4), "c": SEALED, "d": SEALED}
        for at, name in enumerate("abcd"):
            expected = changed_at(one, at, name, sealed[name], one[at][2]) + [("z", sealed[name], other[at][2])]
            pair = pair_book(Book(one), Book(other), name)
            self.assertIs(type(pair), Book)
            self.assertEqual(repr(pair.settings()), repr(expected))
            self.assertEqual(expected, model_pair(one, other, name))
            self.assertEqual(pair_book(name=name, other=Book(other), one=Book(one)), pair)
            swapped = pair_book(Book(other), Book(one), name).settings()
            self.assertEqual(swapped[-1], ("z", sealed[name], one[at][2]))

    def test_the_name_of_the_new_setting(self):
        for names, new in [("a", "z"), ("z", "zz"), (["zz"], "z"), (["z", "zz"], "zzz"), (["zzz", "z"], "zz"),
                           (["a", "zz", "zzz", "z"], "zzzz"),
                           (["z" * count for count in range(1, 9)], "z" * 9), (["zy", "za"], "z")]:
            book = Book([(name, FREE, ("number", 1)) for name in names])
            for name in names:
                self.assertEqual(pair_book(book, book, name).names(), list(names) + [new])

    def test_definitions_that_mention_one_another_the_other_way_round(self):
        one = [("a", SEALED, ("number", 5)), ("b", SEALED, ("plus", "a", 0))]
        other = [("a", SEALED, ("plus", "b", 0)), ("b", SEALED, ("number", 5))]
        self.assertEqual(pair_book(Book(one), Book(other), "a").settings(), one + [("z", SEALED, ("plus", "b", 0))])
        self.assertEqual(pair_book(Book(one), Book(other), "b").settings(), one + [("z", SEALED, ("number", 5))])

    def test_equivalent_just_if_the_claims_are_sure(self):
        maker = SmallMaker(100)
        seen = {True: 0, False: 0}
        for _ in range(200):
            one, other = alike(maker, maker.small_settings(3))
            equal = [verdict(pair_book(Book(one), Book(other), name), Claim.equal(name, "z"))[0] == "sure" for name, _, _ in one]
            self.assertEqual(compare(Book(one), Book(other))[0], "equivalent" if all(equal) else "different")
            seen[all(equal)] += 1
        self.assertGreater(min(seen.values()), 40)

    def test_wrong_names(self):
        for name in [odd for odd in odd_objects() if odd != "ground"] + ["z", "no", "Text", True, ["text"], ("text",)]:
            with self.subTest(name=name), self.assertRaises(UnknownName) as caught:
                pair_book(theme(), Book(SWAPPED), name)
            self.assertIs(caught.exception.name, name)


def alike(maker, settings):
    """The settings, and matching ones of which some have other definitions."""
    names = [setting[0] for setting in settings]
    others = []
    for at, (name, permission, definition) in enumerate(settings):
        new = definition
        if maker.dice.random() < 0.5:
            new = maker.definition(names[:at])
        if permission[0] == "choice":
            new = ("plus", maker.dice.choice(permission[1]), 0)
        if permission[0] == "extend" or definition[0] in ("max", "min") and maker.dice.random() < 0.5:
            new = (definition[0],
                   maker.dice.sample(definition[1], len(definition[1])) + maker.operands(names[:at])[:maker.dice.randint(0, 1)])
        others.append((name, permission, new))
    return settings, others


class Compared(CompareTest):
    def assert_equivalent(self, one, other):
        self.assertEqual([self.assert_right(one, other), self.assert_right(other, one)], ["equivalent"] * 2)

    def assert_different(self, one, other):
        self.assertEqual([self.assert_right(one, other), self.assert_right(other, one)], ["different"] * 2)

    def test_without_settings(self):
        self.assertEqual(compare(Book([]), Book([])), ("equivalent", []))
        self.assert_equivalent([], [])

    def test_the_same_book(self):
        self.assert_equivalent(THEME, THEME)
        self.assert_equivalent(WIDE, WIDE)
        self.assertEqual(compare(theme(), theme() + [("seal", "ground")][:0])[0], "equivalent")

    def test_values_that_are_the_same_now_only(self):
        """Without a layer both have the same values, and with one they have not."""
        base = ("a", FREE, ("number", 3))
        self.assert_different([base, ("b", SEALED, ("plus", "a", 1))], [base, ("b", SEALED, ("number", 4))])
        self.assert_different([base, ("b", SEALED, ("max", ["a", 2]))], [base, ("b", SEALED, ("plus", "a", 0))])
        self.assert_different([base, ("b", SEALED, ("max", ["a", 3]))], [base, ("b", SEALED, ("min", ["a", 3]))])

    def test_definitions_that_a_layer_may_replace(self):
        """They count as long as no layer touches them."""
        self.assert_different([("a", FREE, ("number", 3))], [("a", FREE, ("number", 4))])
        self.assert_different([("a", ("free", 0, 9, []), ("number", 9))], [("a", ("free", 0, 9, []), ("number", 8))])
        self.assert_equivalent([("a", ("free", 0, 9, []), ("number", 9))], [("a", ("free", 0, 9, []), ("number", 12))])
        self.assert_equivalent([("a", ("free", 0, 9, []), ("number", -1))], [("a", ("free", 0, 9, []), ("if", 1, 2, 3, 0))])
        base = [("a", FREE, ("number", 3)), ("b", FREE, ("number", 3))]
        choice = ("choice", ["a", "b"])
        self.assert_different(base + [("c", choice, ("plus", "a", 0))], base + [("c", choice, ("plus", "b", 0))])
        base = [("a", FREE, ("number", 3)), ("b", SEALED, ("min", ["a", "a"]))]
        self.assert_equivalent(base + [("c", choice, ("plus", "a", 0))], base + [("c", choice, ("plus", "b", 0))])

    def test_operands_that_layers_add(self):
        base, extend = ("a", FREE, ("number", 3)), ("extend", ["a"])
        for word in ("max", "min"):
            self.assert_equivalent([base, ("b", extend, (word, ["a", 1]))], [base, ("b", extend, (word, [1, "a", 1]))])
            self.assert_different([base, ("b", extend, (word, ["a", 1]))], [base, ("b", extend, (word, [1]))])
            self.assert_different([base, ("b", extend, (word, [1]))], [base, ("b", extend, (word, [2]))])

    def test_limits_count(self):
        base = ("a", ("free", 0, 9, []), ("number", 3))
        limited = ("sealed", 2, 5)
        self.assert_equivalent([base, ("b", limited, ("plus", "a", 0))], [base, ("b", limited, ("max", ["a", 1]))])
        self.assert_equivalent([base, ("b", limited, ("plus", "a", 0))], [base, ("b", limited, ("min", ["a", 6, 5]))])
        self.assert_different([base, ("b", limited, ("plus", "a", 0))], [base, ("b", limited, ("max", ["a", 3]))])
        self.assert_equivalent([base, ("b", SEALED, ("max", ["a", 0]))], [base, ("b", SEALED, ("min", ["a", 9]))])

    def test_differences_that_nothing_refers_to_are_found(self):
        for at, name in enumerate("abcd"):
            one = [(other, SEALED, ("number", 5)) for other in "abcd"]
            self.assert_different(one, changed_at(one, at, name, SEALED, ("number", 6)))

    def test_references_the_other_way_round(self):
        one = [("a", SEALED, ("number", 5)), ("b", SEALED, ("plus", "a", 2))]
        self.assert_equivalent(one, [("a", SEALED, ("plus", "b", -2)), ("b", SEALED, ("number", 7))])
        self.assert_different(one, [("a", SEALED, ("plus", "b", -2)), ("b", SEALED, ("number", 8))])
        one = [("s", ("extend", []), ("max", [5])), ("t", SEALED, ("plus", "s", 0))]
        self.assert_different(one, [("s", ("extend", []), ("max", ["t"])), ("t", SEALED, ("number", 5))])

    def test_against_a_reckoning(self):
        """All layers of plain numbers agree with what is called equivalent."""
        maker = SmallMaker(101)
        seen = {"equivalent": 0, "different": 0}
        for _ in range(250):
            one, other = alike(maker, maker.small_settings(maker.dice.randint(1, 4)))
            word = self.assert_right(one, other)
            if len(open_names(one)) <= 2:
                found = any(model_different(one, other, layer) for layer in plain_layers(one, range(-6, 7)))
                self.assertEqual(word, "different" if found else "equivalent", (one, other))
            seen[word] += 1
        self.assertGreater(min(seen.values()), 50)

    def test_many_books(self):
        maker = Maker(102)
        seen = {"equivalent": 0, "different": 0}
        for _ in range(300):
            names = "abcdefg"[:maker.dice.randint(1, 7)]
            one, other = alike(maker, [maker.setting(name, list(names[:at])) for at, name in enumerate(names)])
            if max(model_size(one), model_size(other)) <= 60:
                seen[self.assert_right(one, other)] += 1
        self.assertGreater(min(seen.values()), 10)

    def test_layers_on_equivalent_books(self):
        """After any allowed layer all values are the same."""
        maker = Maker(103)
        for _ in range(100):
            layer = maker.allowed_layer(THEME)
            self.assertFalse(model_different(THEME, SWAPPED, layer))
            self.assertIs(check_different(theme(), Book(SWAPPED), layer), False)


class CheckEquivalent(unittest.TestCase):
    def setUp(self):
        self.one, self.other = Book(THEME), Book(SWAPPED)
        self.shown = compare(self.one, self.other)[1]

    def assert_is(self, expected, shown):
        before = repr(shown)
        self.assertIs(check_equivalent(self.one, self.other, shown), expected, shown)
        self.assertEqual(repr(shown), before)

    def test_evidence_for_each_name_in_their_order(self):
        self.assert_is(True, self.shown)
        for at, (_, evidence) in enumerate(zip(THEME, self.shown)):
            self.assertEqual(len(evidence), 2)
            for wrong in [[], evidence[:1], evidence + evidence[:1], tuple(evidence), evidence[::-1], None, [None, None], "sure"]:
                expected = wrong == evidence[::-1] and check_evidence(
                    pair_book(self.one, self.other, THEME[at][0]), Claim.equal(THEME[at][0], "z"), wrong)
                self.assert_is(expected, self.shown[:at] + [wrong] + self.shown[at + 1:])
        self.assert_is(False, self.shown[:-1])
        self.assert_is(False, self.shown + self.shown[-1:])
        self.assert_is(False, tuple(self.shown))
        self.assert_is(False, self.shown[::-1])
        self.assert_is(False, [])
        self.assert_is(False, ("equivalent", self.shown))
        for order in itertools.permutations(range(4)):
            if order != (0, 1, 2, 3):
                shown = [self.shown[at] for at in order]
                expected = [check_evidence(pair_book(self.one, self.other, name), Claim.equal(name, "z"), evidence)
                            for (name, _, _), evidence in zip(THEME, shown)]
                self.assert_is(all(expected), shown)

    def test_other_evidence_is_right_as_well(self):
        """Any evidence will do, also one with more cases than needed."""
        widened = [[("case", "ground",
                     [("case", "text", [tree] * 2)]) if name != "text" else ("case", "ground", [tree]) for tree in evidence]
                   for (name, _, _), evidence in zip(THEME, self.shown)]
        self.assert_is(True, widened)
        self.assert_is(False, [[("case", "ground", [tree] * 2) for tree in evidence] for evidence in self.shown])

    def test_of_other_books(self):
        self.assertIs(check_equivalent(self.one, Book(OFF_BY_ONE), self.shown), False)
        self.assertIs(check_equivalent(Book([]), Book([]), []), True)
        self.assertIs(check_equivalent(Book([]), Book([]), [[]]), False)
        self.assertIs(check_equivalent(Book([]), Book([]), ()), False)

    def test_any_object(self):
        for odd in odd_objects():
            self.assert_is(False, odd)
            for at in range(4):
                self.assert_is(False, self.shown[:at] + [odd] + self.shown[at + 1:])
            self.assert_is(False, [odd] * 4)
            self.assertIs(check_equivalent(Book([]), Book([]), odd), odd == [], odd)


class CheckDifferent(unittest.TestCase):
    def assert_is(self, expected, layer, one=THEME, other=OFF_BY_ONE):
        before = repr(layer)
        self.assertIs(check_different(Book(one), Book(other), layer), expected, layer)
        self.assertIs(check_different(Book(other), Book(one), layer), expected, layer)
        self.assertEqual(repr(layer), before)

    def test_layers(self):
        grey = ("set", "ground", ("number", 50))
        self.assert_is(True, [grey])
        self.assert_is(True, [grey, ("seal", "ground"), ("add", "edge", "link")])
        self.assert_is(True, [("set", "ground", ("number", 3)), ("set", "ground", ("max", [50, 1]))])
        for layer in [[], [("set", "ground", ("number", 49))], [("set", "ground", ("number", 51))],
                      [grey, ("set", "ground", ("number", 90))]]:
            self.assert_is(False, layer)
        self.assert_is(False, [grey], THEME, SWAPPED)

    def test_layers_that_are_not_allowed(self):
        grey = ("set", "ground", ("number", 50))
        for layer in [[grey, ("seal", "text")], [("seal", "ground"), grey], [grey, ("add", "edge", "ground")],
                      [grey, ("add", "link", 3)],
                      [grey, ("set", "text", ("number", 3))]]:
            self.assert_is(False, layer)

    def test_a_difference_in_any_setting(self):
        for at, name in enumerate("abcd"):
            one = [(other, SEALED, ("number", 5)) for other in "abcd"]
            self.assert_is(True, [], one, changed_at(one, at, name, SEALED, ("number", 6)))

    def test_any_object(self):
        grey = ("set", "ground", ("number", 50))
        for odd in odd_objects() + [(grey,), grey, [list(grey)], [grey, None], [grey, ["seal", "ground"]],
                                    [("set", "ground", ("number", True))],
                                    [grey, ("seal", "no")], [[grey]], {0: grey}, [("set", "ground", ["number", 50])]]:
            self.assert_is(False, odd)
            self.assertIs(check_different(Book([("a", SEALED, ("number", 1))]), Book([("a", SEALED, ("number", 2))]), odd),
                          odd == [])

    def test_against_a_reckoning(self):
        maker = Maker(104)
        seen = {True: 0, False: 0}
        for _ in range(300):
            names = "abcde"
            one, other = alike(maker, [maker.setting(name, list(names[:at])) for at, name in enumerate(names)])
            for layer in (maker.layer(one), maker.allowed_layer(one)):
                expected = model_different(one, other, layer)
                self.assertIs(check_different(Book(one), Book(other), layer), expected)
                seen[expected] += 1
        self.assertGreater(min(seen.values()), 50)


class Settled(unittest.TestCase):
    def assert_settled(self, expected, settings):
        before = repr(settings)
        book = Book(settings)
        self.assertEqual(settled(book), expected, settings)
        self.assertEqual(settled(book=book), expected)
        frozen = freeze(book)
        self.assertIs(type(frozen), Book)
        values = model_values(settings)
        for old, new in zip(settings, frozen.settings(), strict=True):
            name, permission, definition = old
            wanted = definition
            if name in expected and permission[0] == "extend":
                wanted = (definition[0], [values[name]])
            elif name in expected and permission[0] != "choice":
                wanted = ("number", values[name])
            self.assertEqual(repr(new), repr((name, permission, wanted)))
        self.assertEqual(repr(freeze(book=book).settings()), repr(frozen.settings()))
        self.assertEqual((repr(settings), repr(book.settings())), (before, before))
        return frozen

    def assert_equivalent(self, settings, frozen):
        """The frozen book is equivalent, by evidence that a second reckoning has checked."""
        word, shown = compare(Book(settings), frozen)
        self.assertEqual(word, "equivalent")
        for (name, _, _), evidence in zip(settings, shown):
            pair = model_pair(settings, frozen.settings(), name)
            self.assertTrue(model_is_evidence(pair, model_equal_conflicts(pair, name), evidence))

    def test_of_the_document(self):
        self.assert_settled(["ground"], WIDE)
        self.assert_settled(["ground"], THEME)
        self.assert_settled([], [])

    def test_each_kind_of_setting(self):
        base = [("a", ("free", 2, 9, []), ("number", 50)), ("k", SEALED, ("number", 4))]
        for permission, definition, is_settled in [
                (SEALED, ("number", 7), True), (("sealed", 3, 5), ("number", 7), True), (SEALED, ("plus", "k", 3), True),
                (SEALED, ("plus", "a", 3), False), (("sealed", None, 2), ("plus", "a", 3), True),
                (("sealed", 12, None), ("plus", "a", 3), True),
                (("sealed", 11, None), ("plus", "a", 3), False), (SEALED, ("max", ["a", 9]), True),
                (SEALED, ("max", ["a", 8]), False),
                (SEALED, ("min", [2, "a"]), True), (SEALED, ("if", "a", 2, 6, "a"), True),
                (SEALED, ("if", "a", 3, 6, "a"), False),
                (SEALED, ("if", "a", 3, 4, "k"), True), (SEALED, ("if", "a", "a", "k", "a"), True),
                (("free", 0, 9, ["a"]), ("number", 7), True), (("free", 0, 9, ["a"]), ("number", 17), True),
                (FREE, ("plus", "a", 0), False),
                (("free", None, 2, []), ("plus", "a", 0), True), (("free", 0, 9, ["a"]), ("plus", "k", 0), True),
                (("choice", ["k", "a"]), ("plus", "k", 0), True), (("choice", ["k", "a"]), ("plus", "a", 0), False),
                (("extend", ["a"]), ("max", ["k", 3]), True), (("extend", ["a"]), ("max", ["a", 3]), False),
                (("extend", ["a"]), ("max", ["a", 9]), True), (("extend", []), ("min", ["a", 2]), True),
                (("extend", []), ("min", ["a", 3]), False)]:
            for settings in (base + [("s", permission, definition)], [("s", permission, definition)] + base):
                with self.subTest(permission=permission, definition=definition):
                    frozen = self.assert_settled(["a", "k", "s"] if is_settled else ["a", "k"], settings)
                    self.assert_equivalent(settings, frozen)

    def test_settings_behind_one_that_layers_may_touch(self):
        """A setting that is settled keeps its value as long as it is not touched; those that refer to it do not."""
        settings = [("c", SEALED, ("plus", "b", 0)), ("b", FREE, ("number", 5)), ("a", ("choice", ["b"]), ("plus", "b", 0))]
        self.assert_equivalent(settings, self.assert_settled(["b"], settings))
        settings = model_sealed(settings, ["b"])
        self.assert_equivalent(settings, self.assert_settled(["a", "b", "c"], settings))

    def test_the_order_of_the_names(self):
        names = ["d", "b", "aa", "z", "a"]
        self.assert_settled(["a", "aa", "b", "d", "z"], [(name, FREE, ("number", 1)) for name in names])

    def test_against_all_plain_layers(self):
        maker = SmallMaker(105)
        seen = {True: 0, False: 0}
        for _ in range(120):
            settings = maker.small_settings(4)
            settings = model_sealed(settings, open_names(settings)[2:])
            layers = [({row[1] for row in layer}, model_values(model_after(settings, layer)))
                      for layer in plain_layers(settings, range(-12, 13))]
            constant = sorted(name for name, _, _ in settings
                              if len({values[name] for touched, values in layers if name not in touched}) == 1)
            self.assert_equivalent(settings, self.assert_settled(constant, settings))
            for name, _, _ in settings:
                seen[name in constant] += 1
        self.assertGreater(min(seen.values()), 100)

    def test_many_books(self):
        maker = Maker(106)
        for _ in range(150):
            settings = maker.settings()
            if model_size(settings) <= 60:
                found = settled(Book(settings))
                self.assert_equivalent(settings, self.assert_settled(found, settings))

    def test_long_numbers(self):
        settings = [("a", ("free", -BIG, BIG, []), ("number", BIG)), ("b", SEALED, ("plus", "c", BIG)),
                    ("c", SEALED, ("number", BIG))]
        self.assertEqual(self.assert_settled(["a", "b", "c"], settings)["b"], 2 * BIG)


class Redundant(unittest.TestCase):
    def assert_redundant(self, expected, settings):
        before = repr(settings)
        book = Book(settings)
        self.assertEqual(redundant(book), expected, settings)
        self.assertEqual(redundant(book=book), expected)
        for place in operand_places(settings):
            word, shown = compare(book, Book(without(settings, *place)))
            self.assertEqual(word, "equivalent" if place in expected else "different", place)
            if word == "different":
                self.assertTrue(model_different(settings, without(settings, *place), shown))
        self.assert_trimmed(settings, trim(book))
        self.assertEqual(repr(trim(book=book).settings()), repr(trim(book).settings()))
        self.assertEqual((repr(settings), repr(book.settings())), (before, before))

    def assert_trimmed(self, settings, trimmed):
        """The trimmed book is equivalent, has no redundant operand, and has the operands in their order."""
        self.assertIs(type(trimmed), Book)
        self.assertEqual(redundant(trimmed), [])
        word, shown = compare(Book(settings), trimmed)
        self.assertEqual(word, "equivalent")
        for (name, permission, old), new, evidence in zip(settings, trimmed.settings(), shown, strict=True):
            pair = model_pair(settings, trimmed.settings(), name)
            self.assertTrue(model_is_evidence(pair, model_equal_conflicts(pair, name), evidence))
            self.assertEqual(new[:2], (name, permission))
            if old[0] in ("max", "min"):
                self.assertEqual(new[2][0], old[0])
                self.assertTrue(new[2][1])
                rest = iter(old[1])
                self.assertTrue(all(operand in rest for operand in new[2][1]), (old, new))
            else:
                self.assertEqual(new[2], old)

    def test_of_the_document(self):
        self.assert_redundant([("rim", 1), ("rim", 2)], WIDE)
        self.assert_redundant([], THEME)
        self.assert_redundant([], [])
        self.assertEqual(trim(Book(WIDE)).setting("rim"), ("rim", SEALED, ("max", ["text"])))

    def test_single_operands(self):
        """One operand alone is not redundant, though without it there would be no definition."""
        for permission in (SEALED, FREE, ("extend", []), ("sealed", 3, 3)):
            for word in ("max", "min"):
                self.assert_redundant([], [("a", permission, (word, [7]))])
                self.assertEqual(trim(Book([("a", permission, (word, [7]))])).settings(), [("a", permission, (word, [7]))])

    def test_each_kind_of_setting(self):
        base = [("a", ("free", 2, 9, []), ("number", 5)), ("b", SEALED, ("plus", "a", 3))]
        for permission, definition, expected in [
                (SEALED, ("max", ["a", "b"]), [0]), (SEALED, ("min", ["a", "b"]), [1]), (SEALED, ("max", ["a", "a"]), [0, 1]),
                (SEALED, ("max", ["a", 2]), [1]), (SEALED, ("max", ["a", 3]), []), (SEALED, ("max", ["a", 9]), [0]),
                (SEALED, ("max", ["a", 8]), []),
                (SEALED, ("min", [2, "a", 1]), [0, 1]), (("sealed", 3, 4), ("max", ["a", 3]), [1]),
                (("sealed", 3, 4), ("max", [3, "a"]), [0]),
                (("sealed", 3, 3), ("max", ["a", 3]), [0, 1]), (("sealed", 3, 4), ("min", ["b", 3]), [0]),
                (FREE, ("max", [4, 7]), [0]),
                (FREE, ("max", [7, 7, 4]), [0, 1, 2]), (("free", 8, 9, []), ("max", [4, 7]), [0, 1]),
                (("free", 6, 9, ["a"]), ("min", ["a", 7]), []),
                (("extend", ["a"]), ("max", ["a", "b"]), [0]), (("extend", ["b"]), ("min", [6, "b", 6]), [0, 2]),
                (("extend", []), ("max", ["a", 3]), []),
                (SEALED, ("max", ["a", 5, "a", 4]), [0, 2, 3]), (SEALED, ("if", "a", 0, "b", "b"), []),
                (SEALED, ("plus", "a", 0), []),
                (SEALED, ("max", [1, 2, 3, 4, 5, 12]), [0, 1, 2, 3, 4]), (SEALED, ("max", ["a", "b", 12]), [0, 1])]:
            with self.subTest(permission=permission, definition=definition):
                self.assert_redundant([("s", at) for at in expected], base + [("s", permission, definition)])
                self.assert_redundant([("s", at) for at in expected], [("s", permission, definition)] + base)

    def test_each_one_by_itself(self):
        """Of two equal operands each is redundant, and one stays."""
        settings = [("a", FREE, ("number", 0)), ("s", SEALED, ("max", ["a", "a", "a"])), ("t", SEALED, ("min", [4, 4]))]
        self.assert_redundant([("s", 0), ("s", 1), ("s", 2), ("t", 0), ("t", 1)], settings)
        self.assertEqual(trim(Book(settings)).settings(),
                         [settings[0], ("s", SEALED, ("max", ["a"])), ("t", SEALED, ("min", [4]))])

    def test_the_order_of_the_places(self):
        settings = [("d", SEALED, ("max", [1] * 11)), ("b", SEALED, ("min", [1, 1])), ("aa", SEALED, ("max", [3, 3])),
                    ("a", SEALED, ("max", [2, 1]))]
        self.assert_redundant([("a", 1), ("aa", 0), ("aa", 1), ("b", 0), ("b", 1)] + [("d", at) for at in range(11)], settings)

    def test_operands_of_several_settings(self):
        settings = [("a", ("free", 0, 9, []), ("number", 5)), ("b", SEALED, ("max", ["a", 0])),
                    ("c", SEALED, ("min", ["a", "b", 9])),
                    ("d", SEALED, ("max", ["b", "c"]))]
        self.assert_redundant([("b", 1), ("c", 0), ("c", 1), ("c", 2), ("d", 0), ("d", 1)], settings)

    def test_against_all_plain_layers(self):
        maker = SmallMaker(107)
        seen = {True: 0, False: 0}
        for _ in range(150):
            settings = maker.small_settings(4)
            settings = model_sealed(settings, open_names(settings)[2:])
            layers = list(plain_layers(settings, range(-5, 6)))
            places = operand_places(settings)
            expected = sorted(place for place in places if not any(
                model_different(settings, without(settings, *place), layer) for layer in layers)) if places else []
            self.assert_redundant(expected, settings)
            for place in places:
                seen[place in expected] += 1
        self.assertGreater(min(seen.values()), 50)

    def test_many_books(self):
        maker = Maker(108)
        seen = 0
        for _ in range(200):
            settings = maker.settings()
            if model_size(settings) <= 60:
                self.assert_redundant(redundant(Book(settings)), settings)
                seen += len(redundant(Book(settings)))
        self.assertGreater(seen, 30)


class Matching(unittest.TestCase):
    """Point 60: which books match, and the errors of all functions with two books."""

    CALLS = {
        "pair_book": lambda one, other: pair_book(one, other, []),
        "pair_book by name": lambda one, other: pair_book(name=None, other=other, one=one),
        "compare": lambda one, other: compare(one, other),
        "compare by name": lambda one, other: compare(other=other, one=one),
        "check_equivalent": lambda one, other: check_equivalent(one, other, None),
        "check_equivalent by name": lambda one, other: check_equivalent(shown=[], other=other, one=one),
        "check_different": lambda one, other: check_different(one, other, None),
        "check_different by name": lambda one, other: check_different(layer=[], other=other, one=one),
    }

    def assert_mismatched(self, one, other):
        for label, call in self.CALLS.items():
            for books in ((Book(one), Book(other)), (Book(other), Book(one))):
                with self.subTest(call=label, other=other), self.assertRaises(MismatchedBooks) as caught:
                    call(*books)
                self.assertIs(type(caught.exception), MismatchedBooks)

    def assert_matching(self, one, other):
        self.assertIn(compare(Book(one), Book(other))[0], ("equivalent", "different"))
        for name, _, _ in one:
            self.assertEqual(pair_book(Book(one), Book(other), name).names()[:-1], [setting[0] for setting in one])

    def test_names(self):
        self.assert_mismatched(THEME, [])
        self.assert_mismatched(THEME, THEME[:-1])
        self.assert_mismatched(THEME, WIDE)
        self.assert_mismatched(THEME, [THEME[1], THEME[0]] + THEME[2:])
        self.assert_mismatched([("a", FREE, ("number", 1))], [("b", FREE, ("number", 1))])
        self.assert_mismatched([("a", FREE, ("number", 1))], [("aa", FREE, ("number", 1))])

    def test_permissions(self):
        permissions = [FREE, ("free", 0, None, []), ("free", None, 0, []), ("free", 0, 1, []), ("free", 0, 2, []),
                       ("free", None, None, ["b"]),
                       ("free", None, None, ["b", "c"]), ("free", None, None, ["c", "b"]), SEALED, ("sealed", 0, None),
                       ("sealed", 0, 1),
                       ("choice", ["b"]), ("choice", ["b", "c"]), ("choice", ["c", "b"])]
        base = [("b", FREE, ("number", 1)), ("c", FREE, ("number", 1))]
        for one, other in itertools.product(permissions, permissions):
            books = [[("a", permission, ("plus", "b", 0))] + base for permission in (one, other)]
            (self.assert_matching if one == other else self.assert_mismatched)(*books)
        for one, other in itertools.product([[], ["b"], ["b", "c"], ["c", "b"]], repeat=2):
            books = [[("a", ("extend", names), ("max", ["b"]))] + base for names in (one, other)]
            (self.assert_matching if one == other else self.assert_mismatched)(*books)

    def test_words_of_definitions_that_layers_extend(self):
        for permission in (("extend", []), FREE, SEALED):
            one, other = [("a", permission, ("max", [1]))], [("a", permission, ("min", [1]))]
            (self.assert_mismatched if permission[0] == "extend" else self.assert_matching)(one, other)
            self.assert_matching(one, [("a", permission, ("max", [2, 5]))])

    def test_layers_change_what_matches(self):
        self.assert_mismatched(THEME, model_after(THEME, [("seal", "ground")]))
        self.assert_mismatched(THEME, model_after(THEME, [("seal", "edge")]))
        self.assert_matching(THEME, model_after(THEME, [("set", "ground", ("number", 3)), ("add", "edge", 7)]))

    def test_no_book(self):
        """InvalidBook comes before MismatchedBooks, which comes before all other errors."""
        for odd in odd_objects() + [THEME]:
            if isinstance(odd, Book):
                continue
            for label, call in self.CALLS.items():
                for books in [(odd, theme()), (theme(), odd), (odd, None), (odd, Book([]))]:
                    with self.subTest(call=label, odd=odd), self.assertRaises(InvalidBook) as caught:
                        call(*books)
                    self.assertIs(caught.exception.value, odd)
            for call in (settled, freeze, redundant, trim):
                with self.assertRaises(InvalidBook) as caught:
                    call(odd)
                self.assertIs(caught.exception.value, odd)
                with self.assertRaises(InvalidBook) as caught:
                    call(book=odd)
                self.assertIs(caught.exception.value, odd)


class NewLists(unittest.TestCase):
    def test_equal_calls_and_new_lists(self):
        maker = Maker(109)
        for _ in range(60):
            names = "abcde"
            one, other = alike(maker, [maker.setting(name, list(names[:at])) for at, name in enumerate(names)])
            if max(model_size(one), model_size(other)) > 60:
                continue
            first, second = Book(copy.deepcopy(one)), Book(copy.deepcopy(other))
            for call in (lambda: compare(first, second)[1], lambda: compare(first, first)[1], lambda: settled(first),
                         lambda: redundant(first)):
                expected = repr(call())
                result = call()
                for part in result:
                    if isinstance(part, list):
                        part.clear()
                result.clear()
                self.assertEqual(repr(call()), expected)
            for made in (freeze(first), trim(first), pair_book(first, second, "a")):
                expected = repr(made.settings())
                for _, permission, definition in made.settings():
                    for part in permission + definition:
                        if isinstance(part, list):
                            part.append("no")
                self.assertEqual(repr(made.settings()), expected)
            self.assertEqual((first.settings(), second.settings()), (one, other))

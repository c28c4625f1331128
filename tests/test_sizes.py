"""Point 3 for spreads, compare and live themes: answers at the limits come within seconds, and are right."""

import itertools

from laterthemes.books import Book
from laterthemes.claims import Claim, holds
from laterthemes.compare import (
    check_different, check_equivalent, compare, freeze, pair_book, redundant, settled, trim)
from laterthemes.duals import breaks, seals
from laterthemes.errors import BrokenClaim, NothingToUndo
from laterthemes.live import Live
from laterthemes.spreads import layer_to, risk, safe_limits, spread
from laterthemes.verdicts import check_evidence, verdict
from tests.limits import BIG, FREE, SEALED, SIX, LimitMaker, TimedTest, free_settings
from tests.reckoning import left_by, model_end, model_is_evidence, model_size, model_stretches
from tests.support import THEME, model_after, model_values, theme


def branching(maker, counts):
    """Eight settings: free ones, and sealed ones with so many alternatives each, most of which go together."""
    names = "abcdefgh"
    settings = free_settings(names[:8 - len(counts)])
    for count in counts:
        before = list(names[:len(settings)])
        if count == 2:
            definition = ("if",) + tuple(maker.dice.choice(before) for _ in range(4))
        else:
            definition = (maker.dice.choice(["max", "min"]), [maker.dice.choice(before) for _ in range(count)])
        settings.append((names[len(settings)], SEALED, definition))
    return settings


def shuffled(maker, settings):
    """The settings with the operands of definitions `max` and `min` in another order."""
    return [(name, permission, (definition[0], maker.dice.sample(definition[1], len(definition[1]))))
            if definition[0] in ("max", "min") else (name, permission, definition) for name, permission, definition in settings]


class Spreads(TimedTest):
    def assert_spreads(self, settings, claim, one, other):
        book = Book(settings)
        possible = self.timed(spread, book, one, other)
        self.assertEqual(possible, model_stretches(settings, [[]], one, other))
        risky = self.timed(risk, book, claim, one, other)
        self.assertEqual(risky, model_stretches(settings, claim.conflicts, one, other))
        for number in [number for stretch in possible for number in stretch if number is not None] or [0]:
            values = model_values(model_after(settings, self.timed(layer_to, book, one, other, number)))
            self.assertEqual(model_end(one, values) - model_end(other, values), number)
        for name, permission, _ in settings:
            if permission[0] == "free":
                limits = self.timed(safe_limits, book, claim, name)
                self.assertEqual(limits, left_by(*permission[1:3], self.timed(risk, book, claim, name)))
        return possible, risky

    def test_a_size_of_600(self):
        maker = LimitMaker(120)
        for _ in range(40):
            settings = maker.sized_settings(300, 600)
            self.assert_spreads(settings, maker.full_claim(settings), "h", maker.dice.choice("abcdefg"))

    def test_alternatives_that_go_together(self):
        maker = LimitMaker(121)
        for counts in [(5, 5, 3, 2, 2, 2), (6, 10, 10), (5, 5, 6, 4), (2, 2, 2, 3, 5, 5), (60, 10), (100, 6), (6, 100)]:
            settings = branching(maker, counts)
            self.assertEqual(model_size(settings), 600)
            self.assert_spreads(settings, maker.full_claim(settings), "h", "a")

    def test_long_numbers(self):
        settings = [("a", ("free", -BIG, BIG, []), ("number", 0)), ("b", ("free", None, BIG, []), ("number", 0))]
        settings += [("c", SEALED, ("plus", "a", BIG)), ("d", SEALED, ("plus", "c", BIG)),
                     ("e", ("sealed", -BIG, BIG), ("max", ["b", "a"])),
                     ("f", SEALED, ("if", "d", BIG, "e", -BIG)), ("g", ("choice", ["f", "d", "a"]), ("plus", "f", 0)),
                     ("h", ("sealed", 1 - BIG, BIG - 1), ("min", ["g", "b", BIG]))]
        claim = Claim([[("g", "h", BIG), (0, "a", -BIG)], [("h", "a", -BIG)], [("f", 0, -BIG), ("e", "d", BIG)],
                       [("d", "b", -BIG)]])
        for one, other in itertools.product("degh", [0, "a", "b", "e"]):
            self.assert_spreads(settings, claim, one, other)

    def test_a_hundred_operands(self):
        """As many as layers add, in open settings and then in a sealed one."""
        layers = [("add", "s", k) for k in range(-40, 20)] + [("add", "s", name) for name in SIX * 6]
        settings = free_settings(SIX) + [("s", ("extend", SIX), ("max", ["a", "b", -41, 20]))]
        settings = model_after(settings, layers)
        self.assertEqual(len(settings[-1][2][1]), 100)
        self.assertEqual(spread(Book(settings), "s"), [(20, None)])
        self.assertEqual(spread(Book(settings), "s", "c"), [(0, None)])
        claim = Claim.at_most("s", 0, 30) & Claim.at_least("s", "b", 0)
        self.assert_spreads(settings, claim, "s", "a")
        closed = model_after(settings, [("seal", "s")])
        self.assert_spreads(closed, claim, "s", "a")

    def test_a_book_of_nine_settings(self):
        """A pair book of two books of a size of at most 60 each."""
        settings = free_settings("abcdefg") + [("h", SEALED, ("max", ["a", "b", "c", "d", 1, 2, 3, 4, 5, 6]))]
        pair = pair_book(Book(settings), Book(settings), "h")
        self.assertEqual(self.timed(spread, pair, "h", "z"), [(0, 0)])
        self.assertEqual(self.timed(risk, pair, Claim.at_most("a", 0, 0), "z"), [(6, None)])
        self.assertEqual(self.timed(verdict, pair, Claim.equal("h", "z"))[0], "sure")


class Compared(TimedTest):
    def assert_all(self, one, other):
        """All functions of compare for two books; returns whether they are equivalent."""
        books = Book(one), Book(other)
        word, shown = self.timed(compare, *books)
        if word == "equivalent":
            self.assertTrue(self.timed(check_equivalent, *books, shown))
            for name, evidence in zip(books[0].names(), shown, strict=True):
                pair = pair_book(*books, name)
                conflicts = Claim.equal(name, pair.names()[-1]).conflicts
                self.assertTrue(model_is_evidence(pair.settings(), conflicts, evidence))
        else:
            self.assertTrue(self.timed(check_different, *books, shown))
            after = [model_values(model_after(settings, shown)) for settings in (one, other)]
            self.assertNotEqual(*after)
        return word == "equivalent"

    def assert_reduced(self, settings):
        book = Book(settings)
        constant, frozen = self.timed(settled, book), self.timed(freeze, book)
        self.assertEqual(self.timed(settled, frozen), constant)
        self.assertTrue(self.assert_all(settings, frozen.settings()))
        places, trimmed = self.timed(redundant, book), self.timed(trim, book)
        self.assertEqual(self.timed(redundant, trimmed), [])
        self.assertTrue(self.assert_all(settings, trimmed.settings()))
        self.assertEqual(book == trimmed, places == [])

    def test_a_size_of_60(self):
        maker = LimitMaker(130)
        for _ in range(40):
            settings = maker.sized_settings(30, 60)
            self.assert_reduced(settings)
            self.assertTrue(self.assert_all(settings, shuffled(maker, settings)))

    def test_alternatives_that_go_together(self):
        maker = LimitMaker(131)
        for counts in [(5, 3, 2, 2), (6, 10), (5, 4, 3), (12, 5), (5, 12), (2, 2, 2, 2, 3), (3, 4, 5), (2, 6, 5)]:
            settings = branching(maker, counts)
            self.assertLessEqual(model_size(settings), 60)
            self.assertTrue(self.assert_all(settings, shuffled(maker, settings)))
            self.assert_reduced(settings)
            self.assertFalse(self.assert_all(settings, settings[:-1] + [("h", SEALED, ("plus", "a", 1))]))

    def test_twelve_operands(self):
        """In a setting with both limits, which then has 36 alternatives, and 1296 together with its pair."""
        names = list("abcdefg")
        for word in ("max", "min"):
            for operands in [names + [1, 2, 3, 4, 5], [names[at % 5] for at in range(12)], names + [9] * 5]:
                settings = free_settings(names) + [("h", ("sealed", -50, 50), (word, operands))]
                other = settings[:-1] + [("h", ("sealed", -50, 50), (word, operands[::-1]))]
                self.assertEqual(model_size(settings), 36)
                self.assertTrue(self.assert_all(settings, other))
                fewer = [operand for operand in operands if operand != "a"]
                self.assertFalse(self.assert_all(settings, other[:-1] + [("h", ("sealed", -50, 50), (word, fewer))]))
                self.assert_reduced(settings)

    def test_twelve_operands_that_layers_may_extend(self):
        settings = free_settings("abcde") + [("h", ("extend", ["a"]), ("max", list("abcde") + [3, 4, 5] + list("bcd") + [5]))]
        self.assert_reduced(settings)
        self.assertEqual(redundant(Book(settings)), [("h", at) for at in (1, 2, 3, 5, 6, 7, 8, 9, 10, 11)])

    def test_long_numbers(self):
        settings = [("a", ("free", -BIG, BIG, []), ("number", 0)), ("b", SEALED, ("plus", "a", BIG)),
                    ("c", SEALED, ("plus", "b", BIG)),
                    ("d", ("sealed", -BIG, BIG), ("max", ["c", "a", BIG, -BIG])), ("e", ("choice", ["a", "c"]), ("plus", "c", 0))]
        self.assert_reduced(settings)
        self.assertEqual(settled(Book(settings)), ["a", "d"])
        other = [settings[0], settings[1], ("c", SEALED, ("max", ["b", "b"])), settings[3], settings[4]]
        self.assertFalse(self.assert_all(settings, other))

    def test_pair_books_in_other_functions(self):
        """They may be passed to verdicts, and to duals as well up to a size of 600."""
        maker = LimitMaker(132)
        for counts in [(5, 3, 2, 2), (6, 10), (5, 4, 3), (12, 5)]:
            settings = branching(maker, counts)
            others = shuffled(maker, settings)[:-1] + [("h", SEALED, ("max", ["a", "b"]))]
            for name in "gh":
                pair = pair_book(Book(settings), Book(others), name)
                claim = Claim.equal(name, "z") & Claim.at_least("z", name, -3)
                word, shown = self.timed(verdict, pair, claim)
                if word == "sure":
                    self.assertTrue(self.timed(check_evidence, pair, claim, shown))
                if model_size(pair.settings()) <= 600:
                    found, saved = self.timed(breaks, pair, claim), self.timed(seals, pair, claim)
                    self.assertEqual(found == [], word == "sure")
                    self.assertEqual(saved[0][0] == (), word == "sure")


class LiveThemes(TimedTest):
    def guards(self):
        """Ten claims of six conflicts of four facts, which hold as long as no value is beyond 1000."""
        names = ["ground", "text", "link", "edge"]
        conflicts = [[(0, name, -1001 - at), (0, 0, 0), ("ground", "ground", 0), (0, name, -5)] for at,
                     name in enumerate(names + names[:2])]
        return [Claim(conflicts) for _ in range(10)]

    def filled(self):
        live = Live(theme())
        live.guards = self.guards()
        for at in range(200):
            if at % 3 == 0:
                live["ground"] = at % 101
            elif at % 3 == 1:
                live.push([("set", "link", ("max", ["text", at % 90, 1, 2, 3, 4]))] * 20)
            elif at < 145:
                live += [("add", "edge", at), ("add", "edge", "link")]
            else:
                live.push([])
        return live

    def test_200_layers(self):
        live = self.timed(self.filled)
        self.assertEqual((len(live), len(live.layers()), len(live.guards)), (200, 200, 10))
        self.assertEqual(len(live.book.setting("edge")[2][1]), 98)
        settings = THEME
        for layer in live.layers():
            settings = model_after(settings, layer)
        self.assertEqual(live.book.settings(), settings)
        self.assertEqual(live.book.evaluate(), model_values(settings))
        with self.assertRaises(BrokenClaim) as caught:
            live["edge"] = 1005
        self.assertIs(caught.exception.claim, live.guards[0])

    def assert_back_and_forth(self, live):
        layers = live.layers()
        for _ in range(200):
            live.undo()
        self.assertEqual((len(live), live.book), (0, theme()))
        with self.assertRaises(NothingToUndo):
            live.undo()
        for _ in range(200):
            live.redo()
        self.assertEqual(live.layers(), layers)
        for at in range(200):
            self.assertEqual(live.pop(), layers[199 - at])
        for _ in range(400):
            live.undo()
        self.assertEqual(len(live), 0)

    def test_all_undone_and_made_again(self):
        self.timed(self.assert_back_and_forth, self.filled())

    def changed_often(self, live):
        for _ in range(1500):
            live.push([])
            live.undo()
            live.redo()
            live.pop()
        for _ in range(1500):
            live.undo()

    def test_many_changes(self):
        live = self.filled()
        live.pop()
        self.timed(self.changed_often, live)
        self.assertEqual(len(live), 199)

    def nested(self, live, depth):
        with live.trial():
            live["ground"] = depth
            live.undo() if depth % 2 else live.pop()
            live.undo()
            live.guards = live.guards[:depth]
            deeper = self.nested(live, depth - 1) if depth > 1 else 0
            return deeper + live.attempt(len)

    def test_trials_in_trials(self):
        live = self.filled()
        before = live.layers(), len(live.guards)
        # In the trial at each depth, one more change was taken back, or a pop of the same layer.
        self.assertEqual(self.timed(self.nested, live, 10), sum(self.depths(200, 10)))
        self.assertEqual((live.layers(), len(live.guards)), before)

    def depths(self, layers, depth):
        """The numbers of layers at each depth, by the steps of `nested`: one more, one fewer, and one change back."""
        found = []
        while depth:
            # After an undo of the own change, the next one is of the change before; after a pop, it is of the pop.
            layers = layers - 1 if depth % 2 else layers + 1
            found.append(layers)
            depth -= 1
        return found

    def attempted(self, live, depth):
        live.push([])
        return len(live) if depth == 1 else live.attempt(lambda inner: self.attempted(inner, depth - 1))

    def test_attempts_in_attempts(self):
        live = Live(theme())
        self.assertEqual(self.timed(live.attempt, lambda inner: self.attempted(inner, 10)), 10)
        self.assertEqual(len(live), 0)

    def test_verdicts_for_a_size_of_600(self):
        maker = LimitMaker(140)
        for _ in range(20):
            settings = maker.sized_settings(300, 600)
            claim = maker.full_claim(settings)
            live = Live(Book(settings))
            self.assertEqual(self.timed(live, claim), verdict(Book(settings), claim)[0])
            if holds(live.book, claim):
                live.guards = [claim] * 10
                self.assertEqual(len(live.guards), 10)

    def test_long_numbers(self):
        live = Live(Book([("a", FREE, ("number", 0)), ("b", SEALED, ("plus", "a", BIG)), ("c", ("extend", []), ("max", ["b"]))]))
        live["a"] = BIG
        live["c"] = 3 * BIG
        self.assertEqual(live.book.evaluate(), {"a": BIG, "b": 2 * BIG, "c": 3 * BIG})
        live["a"] = live["c"]
        self.assertEqual(live["c"], 4 * BIG)
        self.assertEqual(spread(live.book, "c"), [(3 * BIG, None)])

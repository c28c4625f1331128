"""Points 70 to 73: live themes."""

import copy
import itertools
import unittest

from laterthemes.books import Book
from laterthemes.claims import Claim
from laterthemes.errors import (
    BrokenClaim, InvalidBook, InvalidClaim, InvalidLayer, InvalidList, NotAllowed, NothingToUndo, ThemeError, UnknownName)
from laterthemes.live import Live
from laterthemes.verdicts import verdict
from tests.reckoning import model_holds
from tests.support import THEME, Maker, model_after, model_values, odd_objects, theme

FREE = ("free", None, None, [])
SEALED = ("sealed", None, None)
NIGHT = [("set", "ground", ("number", 20))]
WIDE = [("set", "link", ("max", ["text", 3])), ("add", "edge", 70)]
SEAL = [("seal", "ground")]
READABLE = Claim.contrast("text", "ground", 40)
DARK = Claim.at_most("ground", 0, 50)


def state(live):
    """All that one can see of a live theme, what can be undone and redone included."""
    seen = [repr(live.layers()), repr(live.book.settings()), repr([claim.conflicts for claim in live.guards])]
    for step, back in ((Live.undo, "undo"), (Live.redo, "redo")):
        with live.trial():
            live.guards = []
            while True:
                try:
                    step(live)
                except NothingToUndo:
                    break
                seen.append((back, repr(live.layers())))
    return seen


class LiveTest(unittest.TestCase):
    def assert_raises(self, kind, field, value, call, *arguments, **named):
        """The call raises this error and changes nothing; the field is equal to the value, returned too."""
        with self.assertRaises(kind) as caught:
            call(*arguments, **named)
        self.assertIs(type(caught.exception), kind)
        found = getattr(caught.exception, field) if field else None
        self.assertEqual(repr(found), repr(value))
        return found

    def assert_unchanged(self, live, kind, field, value, call, *arguments, **named):
        before = state(live)
        found = self.assert_raises(kind, field, value, call, *arguments, **named)
        self.assertEqual(state(live), before)
        return found


class Examples(unittest.TestCase):
    def test_of_the_document(self):
        from laterthemes.live import Live
        theme = Book(THEME)
        live = Live(theme)
        live["ground"] = 20
        live.guards = [Claim.contrast("text", "ground", 40)]
        with live.trial():
            live += [("set", "link", ("number", 1))]
            inner = live["link"]
        self.assertEqual([inner, live["link"], len(live), live(Claim.at_least("text", 0, 10))], [1, 100, 1, "sure"])


class Reading(LiveTest):
    def test_at_first(self):
        for book in (theme(), Book([])):
            for live in (Live(book), Live(book=book)):
                self.assertEqual((live.book, len(live), live.layers(), live.guards), (book, 0, [], []))
                self.assertEqual((type(live.book), type(live.layers()), type(live.guards)), (Book, list, list))
                for call in (live.pop, live.undo, live.redo):
                    self.assert_raises(NothingToUndo, None, None, call)

    def test_no_book(self):
        for odd in odd_objects() + [THEME, Live(theme())]:
            if not isinstance(odd, Book):
                for call in (lambda: Live(odd), lambda: Live(book=odd)):
                    with self.assertRaises(InvalidBook) as caught:
                        call()
                    self.assertIs(caught.exception.value, odd)

    def test_layers_are_added_the_first_one_first(self):
        live = Live(theme())
        live.push([("set", "ground", ("number", 20)), ("set", "link", ("number", 5))])
        live.push([("set", "ground", ("number", 30))])
        live.push(WIDE)
        self.assertEqual(live.book, theme() + live.layers()[0] + live.layers()[1] + live.layers()[2])
        self.assertEqual([live[name] for name in ("ground", "text", "link", "edge")], [30, 90, 90, 90])
        self.assertEqual(len(live), 3)
        self.assertEqual(live.layers()[1], [("set", "ground", ("number", 30))])
        self.assertEqual(theme().settings(), THEME)

    def test_values_and_names(self):
        live = Live(theme())
        live.push(NIGHT)
        for name in theme().names():
            self.assertEqual(live[name], live.book[name])
            self.assertIs(name in live, True)
        for odd in [value for value in odd_objects() if value != "ground"] + ["no", "", ["text"], live]:
            self.assertIs(odd in live, False)
            with self.assertRaises(UnknownName) as caught:
                live[odd]
            self.assertIs(caught.exception.name, odd)

    def test_verdicts(self):
        live = Live(theme())
        changing = Claim.at_least("ground", 0, 1)
        self.assertEqual([live(READABLE), live(DARK), live(Claim([])), live(claim=changing)],
                         ["sure", "breaks", "sure", "breaks"])
        live.push([("set", "ground", ("number", 30)), ("seal", "ground")])
        self.assertEqual([live(READABLE), live(DARK), live(Claim.equal("text", 0)), live(changing)],
                         ["sure", "sure", "breaks", "sure"])
        live.undo()
        self.assertEqual([live(READABLE), live(DARK), live(changing)], ["sure", "breaks", "breaks"])
        for odd in odd_objects():
            if not isinstance(odd, Claim):
                with self.assertRaises(InvalidClaim) as caught:
                    live(odd)
                self.assertIs(caught.exception.value, odd)
        self.assert_raises(UnknownName, "name", "no", live, Claim([[("ground", "no", 0), ("yes", 0, 0)]]))

    def test_the_verdict_is_about_layers_to_come(self):
        """Not about the values as they are, and not about the guards."""
        live = Live(theme())
        live.guards = [Claim.at_least("ground", 0, 50)]
        self.assertEqual(live(Claim.at_least("ground", 0, 50)), "breaks")


class Changes(LiveTest):
    def test_push_and_pop(self):
        live = Live(theme())
        for at, layer in enumerate([NIGHT, [], WIDE, SEAL]):
            self.assertIsNone(live.push(layer) if at % 2 else live.push(layer=layer))
            self.assertEqual((len(live), live.layers()[-1]), (at + 1, layer))
        for at, layer in enumerate([SEAL, WIDE, [], NIGHT]):
            self.assertEqual(repr(live.pop()), repr(layer))
            self.assertEqual(len(live), 3 - at)
        self.assertEqual(live.book, theme())
        self.assert_unchanged(live, NothingToUndo, None, None, live.pop)

    def test_in_place(self):
        live = same = Live(theme())
        live += NIGHT
        self.assertIs(live, same)
        self.assertEqual((live.layers(), live["ground"]), ([NIGHT], 20))
        box = [live]
        box[0] += WIDE
        self.assertIs(box[0], same)
        self.assertEqual(same.layers(), [NIGHT, WIDE])

    def test_errors_of_layers(self):
        live = Live(theme())
        live.push(SEAL)
        live.push(WIDE)
        live.undo()

        def add(layer):
            nonlocal live
            live += layer

        for layer in odd_objects() + [[("set", "no", ("number", 1))], (NIGHT[0],), [list(NIGHT[0])], NIGHT + [None]]:
            if layer != []:
                for call in (live.push, add):
                    self.assertIs(self.assert_unchanged(live, InvalidLayer, "value", layer, call, layer), layer)
        for layer, index in [(NIGHT, 0), ([("add", "edge", 1), ("seal", "text")], 1),
                             (WIDE + [("seal", "edge"), ("add", "edge", 1)], 3),
                             ([("add", "edge", "ground")], 0), ([("set", "link", ("plus", "ground", 0))], 0)]:
            for call in (live.push, add):
                self.assert_unchanged(live, NotAllowed, "index", index, call, layer)

    def test_assigned_values(self):
        settings = THEME + [("k", FREE, ("number", 0)), ("pick", ("choice", ["k", "ground"]), ("plus", "k", 0)),
                            ("low", ("extend", ["k"]), ("min", [9]))]
        cases = [
            ("ground", 30, ("set", "ground", ("number", 30)), 30), ("ground", 300, ("set", "ground", ("number", 300)), 100),
            ("ground", -1, ("set", "ground", ("number", -1)), 0), ("link", "text", ("set", "link", ("plus", "text", 0)), 10),
            ("link", ("plus", "text", 5), ("set", "link", ("plus", "text", 5)), 15),
            ("link", ("number", 4), ("set", "link", ("number", 4)), 4),
            ("link", ("max", ["text", 40]), ("set", "link", ("max", ["text", 40])), 40),
            ("link", ("if", "text", 10, 1, 2), ("set", "link", ("if", "text", 10, 1, 2)), 1),
            ("pick", "ground", ("set", "pick", ("plus", "ground", 0)), 95),
            ("pick", ("plus", "k", 0), ("set", "pick", ("plus", "k", 0)), 0),
            ("edge", 60, ("add", "edge", 60), 60), ("edge", "link", ("add", "edge", "link"), 30),
            ("low", -3, ("add", "low", -3), -3),
            ("low", "k", ("add", "low", "k"), 0), ("k", 10 ** 39, ("set", "k", ("number", 10 ** 39)), 10 ** 39)]
        for name, value, row, result in cases:
            live = Live(Book(settings))
            live[name] = value
            self.assertEqual(repr(live.layers()), repr([[row]]))
            self.assertEqual(live[name], result)
            live.undo()
            self.assertEqual(live.layers(), [])

    def test_assigned_values_go_by_the_permission_at_that_time(self):
        live = Live(theme())
        live["edge"] = 50
        live["edge"] = "link"
        self.assertEqual(live.layers(), [[("add", "edge", 50)], [("add", "edge", "link")]])
        live.push([("seal", "edge")])
        self.assert_unchanged(live, NotAllowed, "index", 0, live.__setitem__, "edge", 60)
        row = ("set", "edge", True)
        self.assert_unchanged(live, InvalidLayer, "value", [row], live.__setitem__, "edge", True)

    def test_errors_of_assigned_values(self):
        live = Live(theme())
        live.push(WIDE)
        live.undo()
        for name in [odd for odd in odd_objects() if odd != "ground"] + ["no", ["text"], ("text",)]:
            for value in (1, None, "text"):
                found = self.assert_unchanged(live, UnknownName, "name", name, live.__setitem__, name, value)
                self.assertIs(found, name)
        for value in odd_objects():
            if type(value) is int or value == "ground":
                continue
            expected = [("add", "edge", value)]
            self.assert_unchanged(live, InvalidLayer, "value", expected, live.__setitem__, "edge", value)
            for name in ("ground", "text"):
                expected = [("set", name, ("plus", value, 0) if isinstance(value, str) else value)]
                self.assert_unchanged(live, InvalidLayer, "value", expected, live.__setitem__, name, value)
        self.assert_unchanged(live, InvalidLayer, "value", [("set", "link", ("max", []))], live.__setitem__, "link", ("max", []))
        self.assert_unchanged(live, InvalidLayer, "value", [("add", "edge", ("number", 3))], live.__setitem__, "edge",
                              ("number", 3))
        for name, value in [("text", 3), ("text", "ground"), ("text", ("number", 3)), ("link", "ground"), ("edge", "ground"),
                            ("edge", "edge"),
                            ("ground", "text"), ("link", ("plus", "link", 0))]:
            self.assert_unchanged(live, NotAllowed, "index", 0, live.__setitem__, name, value)

    def test_a_choice_is_given_a_name(self):
        settings = [("a", FREE, ("number", 1)), ("b", FREE, ("number", 2)), ("c", ("choice", ["a", "b"]), ("plus", "a", 0))]
        live = Live(Book(settings))
        live["c"] = "b"
        self.assertEqual(live["c"], 2)
        for value in (3, "c", ("plus", "b", 1), ("number", 2), ("max", ["a"])):
            self.assert_unchanged(live, NotAllowed, "index", 0, live.__setitem__, "c", value)

    def test_undo_and_redo(self):
        live = Live(theme())
        live.push(NIGHT)
        live["link"] = 7
        live += WIDE
        live.pop()
        stacks = [[], [NIGHT], [NIGHT, [("set", "link", ("number", 7))]], [NIGHT, [("set", "link", ("number", 7))], WIDE]]
        stacks.append(stacks[2])
        at = 4
        for step in [-1, -1, -1, -1, 1, 1, -1, 1, 1, 1, -1, -1, 1, -1]:
            self.assertIsNone(live.undo() if step < 0 else live.redo())
            at += step
            self.assertEqual(live.layers(), stacks[at])
            self.assertEqual(live.book.settings(), Book(THEME + []).settings() if at == 0 else self.added(stacks[at]))
        while at > 0:
            live.undo()
            at -= 1
        self.assert_unchanged(live, NothingToUndo, None, None, live.undo)
        for _ in range(4):
            live.redo()
        self.assert_unchanged(live, NothingToUndo, None, None, live.redo)

    def added(self, layers):
        settings = THEME
        for layer in layers:
            settings = model_after(settings, layer)
        return settings

    def test_a_new_change_forgets_what_was_taken_back(self):
        for change in (lambda live: live.push([]), lambda live: live.pop(), lambda live: live.__setitem__("ground", 3),
                       lambda live: live.__iadd__([])):
            live = Live(theme())
            for layer in (NIGHT, WIDE, SEAL):
                live.push(layer)
            live.undo()
            live.undo()
            change(live)
            after = live.layers()
            self.assert_raises(NothingToUndo, None, None, live.redo)
            live.undo()
            self.assertEqual(live.layers(), [NIGHT])
            live.redo()
            self.assertEqual(live.layers(), after)
            self.assert_raises(NothingToUndo, None, None, live.redo)
            live.undo()
            live.undo()
            self.assertEqual(live.layers(), [])
            self.assert_raises(NothingToUndo, None, None, live.undo)

    def test_failures_forget_nothing(self):
        live = Live(theme())
        live.push(NIGHT)
        live.undo()
        self.assert_raises(InvalidLayer, "value", None, live.push, None)
        self.assert_raises(NotAllowed, "index", 0, live.__setitem__, "text", 3)
        self.assert_raises(UnknownName, "name", "no", live.__setitem__, "no", 3)
        self.assert_raises(NothingToUndo, None, None, live.pop)
        self.assert_raises(NothingToUndo, None, None, live.undo)
        live.redo()
        self.assertEqual(live.layers(), [NIGHT])

    def test_a_layer_without_rows_is_a_change(self):
        live = Live(theme())
        live.push([])
        self.assertEqual((len(live), live.layers()), (1, [[]]))
        live.undo()
        self.assertEqual(len(live), 0)


class Guards(LiveTest):
    def test_set_by_both_ways(self):
        for put in (lambda live, claims: live.guard(claims), lambda live, claims: live.guard(claims=claims),
                    lambda live, claims: setattr(live, "guards", claims)):
            live = Live(theme())
            for claims in [[READABLE], [], [READABLE, Claim([])], [READABLE, READABLE], [Claim.at_least("ground", 0, 95)]]:
                self.assertIsNone(put(live, claims))
                self.assertEqual(live.guards, claims)
                self.assertTrue(all(one is other for one, other in zip(live.guards, claims)))
                self.assertIs(type(live.guards), list)

    def test_no_list_of_claims(self):
        live = Live(theme())
        live.guards = [READABLE]
        broken, unknown = DARK, Claim([[("no", 0, 0)]])
        odd = [value for value in odd_objects() if value not in ([], [Claim([])])]
        odd += [(READABLE,), READABLE, [READABLE, None], [[READABLE]], [READABLE.conflicts], {0: READABLE}, (), [theme()],
                [broken, unknown, 0], [broken, (unknown,)]]
        for claims in odd:
            for call in (live.guard, lambda claims: setattr(live, "guards", claims)):
                self.assertIs(self.assert_unchanged(live, InvalidList, "value", claims, call, claims), claims)

    def test_unknown_names(self):
        live = Live(theme())
        live.guards = [READABLE]
        unknown = Claim([[("ground", "text", 0)], [(0, "no", 0), ("yes", 0, 0)]])
        later = Claim([[("ever", 0, 0)]])
        for claims in [[unknown], [READABLE, unknown, later], [DARK, unknown], [unknown, DARK, later],
                       [DARK, READABLE, unknown, READABLE]]:
            for call in (live.guard, lambda claims: setattr(live, "guards", claims)):
                self.assert_unchanged(live, UnknownName, "name", "no", call, claims)
        self.assert_unchanged(live, UnknownName, "name", "ever", live.guard, [DARK, later, unknown])

    def test_broken_claims(self):
        live = Live(theme())
        live.guards = [READABLE]
        other = Claim.at_most("ground", 0, 50)
        for claims, first in [([DARK], DARK), ([READABLE, DARK], DARK), ([other, DARK], other), ([DARK, other, READABLE], DARK)]:
            for call in (live.guard, lambda claims: setattr(live, "guards", claims)):
                before = state(live)
                with self.assertRaises(BrokenClaim) as caught:
                    call(claims)
                self.assertIs(caught.exception.claim, first)
                self.assertEqual(state(live), before)

    def test_claims_that_hold_now_but_are_not_sure(self):
        live = Live(theme())
        live.guards = [Claim.at_least("ground", 0, 90)]
        self.assertEqual(live(live.guards[0]), "breaks")
        live["ground"] = 90
        with self.assertRaises(BrokenClaim):
            live["ground"] = 89
        self.assertEqual(live["ground"], 90)

    def test_each_change_is_guarded(self):
        """Each call after which a guard would not hold does nothing."""
        bright, narrow = Claim.at_least("ground", 0, 50), Claim.at_most("edge", 0, 60)
        live = Live(theme())
        live.guards = [Claim([]), bright, narrow]

        def add(layer):
            nonlocal live
            live += layer

        for call, arguments, claim in [
                (live.push, (NIGHT,), bright), (add, (NIGHT,), bright), (live.__setitem__, ("ground", 20), bright),
                (live.__setitem__, ("edge", 61), narrow), (live.push, (NIGHT + [("add", "edge", 70)],), bright),
                (live.push, ([("add", "edge", 70)],), narrow)]:
            before = state(live)
            with self.assertRaises(BrokenClaim) as caught:
                call(*arguments)
            self.assertIs(caught.exception.claim, claim)
            self.assertEqual(state(live), before)
        live["edge"] = 60
        live["ground"] = 50
        self.assertEqual(len(live), 2)

    def test_pop_undo_and_redo_are_guarded(self):
        live = Live(theme())
        live.push(NIGHT)
        live.guards = [DARK]
        for call in (live.pop, live.undo):
            self.assert_unchanged(live, BrokenClaim, "claim", live.guards[0], call)
        live.push(WIDE)
        live.undo()
        live.guards = []
        live.undo()
        live.guards = [Claim.at_least("ground", 0, 50)]
        self.assert_unchanged(live, BrokenClaim, "claim", live.guards[0], live.redo)
        live.guards = []
        live.redo()
        live.redo()
        self.assertEqual(live.layers(), [NIGHT, WIDE])

    def test_after_all_other_errors(self):
        live = Live(theme())
        live.push(NIGHT)
        live.guards = [DARK]
        day = ("set", "ground", ("number", 95))
        self.assert_unchanged(live, InvalidLayer, "value", [day, None], live.push, [day, None])
        self.assert_unchanged(live, NotAllowed, "index", 1, live.push, [day, ("seal", "text")])
        self.assert_unchanged(live, UnknownName, "name", "no", live.__setitem__, "no", 95)
        self.assert_unchanged(live, BrokenClaim, "claim", live.guards[0], live.push, [day])
        empty = Live(theme())
        empty.guards = [Claim.at_least("ground", 0, 95)]
        for call in (empty.pop, empty.undo, empty.redo):
            self.assert_unchanged(empty, NothingToUndo, None, None, call)

    def test_other_guards_do_not_alter_what_can_be_undone(self):
        live = Live(theme())
        for layer in (NIGHT, WIDE, SEAL):
            live.push(layer)
        live.undo()
        for claims in ([DARK], [], [READABLE, DARK], [READABLE]):
            live.guards = claims
            self.assertEqual(live.layers(), [NIGHT, WIDE])
        live.redo()
        self.assertEqual(live.layers(), [NIGHT, WIDE, SEAL])
        for _ in range(3):
            live.undo()
        self.assertEqual((live.layers(), live.guards), ([], [READABLE]))

    def test_only_the_last_state_counts(self):
        """A layer may break a guard in the middle if it holds after all rows."""
        live = Live(theme())
        live.guards = [Claim.at_least("ground", 0, 50)]
        live.push([("set", "ground", ("number", 3)), ("set", "ground", ("number", 60))])
        self.assertEqual(live["ground"], 60)


class Trials(LiveTest):
    def prepared(self):
        live = Live(theme())
        for layer in (NIGHT, WIDE, SEAL, []):
            live.push(layer)
        live.undo()
        live.undo()
        live.guards = [READABLE]
        return live

    ACTIONS = [
        lambda live: live.push([]), lambda live: live.pop(), lambda live: live.undo(), lambda live: live.redo(),
        lambda live: live.guard([]), lambda live: setattr(live, "guards", [DARK]), lambda live: live.__setitem__("link", 3),
        lambda live: live.__iadd__(WIDE), lambda live: [live.undo(), live.undo()],
        lambda live: [live.undo(), live.push(WIDE), live.undo()],
        lambda live: [live.pop(), live.pop(), live.push(SEAL)], lambda live: [live.redo(), live.redo(), live.pop()],
        lambda live: None]

    def test_all_is_as_it_was(self):
        for one, other in itertools.product(self.ACTIONS, self.ACTIONS):
            live = self.prepared()
            before = state(live)
            with live.trial():
                try:
                    one(live)
                    other(live)
                except ThemeError:
                    pass
            self.assertEqual(state(live), before)
            self.assertIs(live.guards[0], READABLE)

    def test_changes_are_seen_in_the_block(self):
        live = self.prepared()
        with live.trial():
            live["link"] = 3
            self.assertEqual((len(live), live["link"]), (3, 3))
            live.undo()
            live.undo()
            live.undo()
            self.assertEqual((len(live), live["ground"]), (0, 95))
            self.assert_raises(NothingToUndo, None, None, live.undo)
            live.redo()
            live.guards = [DARK]
            with self.assertRaises(BrokenClaim):
                live.undo()
        self.assertEqual((len(live), live.guards), (2, [READABLE]))

    def test_errors_are_passed_on(self):
        class Odd(BaseException):
            pass

        for error in (KeyError("a"), Odd(), BrokenClaim(DARK), StopIteration()):
            live = self.prepared()
            before = state(live)
            with self.assertRaises(type(error)) as caught:
                with live.trial():
                    live.pop()
                    raise error
            self.assertIs(caught.exception, error)
            self.assertEqual(state(live), before)
            with self.assertRaises(type(error)) as caught:
                live.attempt(self.raising(error))
            self.assertIs(caught.exception, error)
            self.assertEqual(state(live), before)

    def raising(self, error):
        def action(live):
            live.pop()
            live.guards = []
            raise error
        return action

    def test_errors_of_the_theme(self):
        live = self.prepared()
        before = state(live)
        with self.assertRaises(InvalidLayer):
            with live.trial():
                live.undo()
                live.push(None)
        self.assertEqual(state(live), before)

    def test_other_ways_out_of_the_block(self):
        live = self.prepared()
        before = state(live)

        def leave():
            with live.trial():
                live.pop()
                return len(live)

        self.assertEqual(leave(), 1)
        self.assertEqual(state(live), before)
        for _ in range(3):
            with live.trial():
                live.undo()
                continue
        for _ in range(3):
            with live.trial():
                live.undo()
                break
        self.assertEqual(state(live), before)

    def test_the_name(self):
        live = self.prepared()
        with live.trial() as name:
            self.assertIs(name, live)
            name += WIDE
            self.assertIs(name, live)
        self.assertEqual(len(live), 2)

    def test_the_beginning_is_that_of_the_block(self):
        live = self.prepared()
        block = live.trial()
        live.push([])
        live.guards = []
        before = state(live)
        with block:
            live.pop()
            live.guards = [READABLE]
        self.assertEqual(state(live), before)
        self.assertEqual(len(live), 3)

    def test_without_a_block_nothing_happens(self):
        live = self.prepared()
        before = state(live)
        live.trial()
        self.assertEqual(state(live), before)
        live.trial()
        live.pop()
        self.assertEqual(len(live), 1)

    def test_nested_in_one_another(self):
        live = self.prepared()
        states = []
        with live.trial():
            live.pop()
            states.append(state(live))
            with live.trial():
                live.undo()
                live.guards = []
                states.append(state(live))
                with live.trial():
                    live.push(WIDE)
                    live.push(WIDE)
                self.assertEqual(state(live), states[1])
                with self.assertRaises(KeyError):
                    with live.trial():
                        live.undo()
                        raise KeyError
                self.assertEqual(state(live), states[1])
            self.assertEqual(state(live), states[0])
        self.assertEqual(len(live), 2)

    def test_a_block_of_several(self):
        one, other = self.prepared(), self.prepared()
        with one.trial() as first, other.trial() as second:
            first.pop()
            second.push([])
            self.assertEqual((len(one), len(other)), (1, 3))
        self.assertEqual((len(one), len(other)), (2, 2))

    def test_attempts(self):
        live = self.prepared()
        before = state(live)
        for result in (None, 3, [1], live, "x"):
            got = []

            def action(*arguments, **named):
                got.append((arguments, named))
                live.pop()
                return result

            self.assertIs(live.attempt(action), result)
            self.assertEqual(len(got), 1)
            self.assertIs(got[0][0][0], live)
            self.assertEqual((len(got[0][0]), got[0][1]), (1, {}))
            self.assertEqual(state(live), before)
        self.assertEqual(live.attempt(action=len), 2)
        self.assertEqual(live.attempt(Live.pop), WIDE)
        self.assertEqual(live.attempt(lambda inner: [inner.push([]), len(inner)]), [None, 3])
        self.assertEqual(state(live), before)

    def test_attempts_in_attempts(self):
        live = self.prepared()
        before = state(live)

        def action(inner, depth=0):
            inner.push([])
            deeper = inner.attempt(lambda innermost: action(innermost, depth + 1)) if depth < 9 else []
            return [len(inner)] + deeper

        self.assertEqual(live.attempt(action), list(range(3, 13)))
        self.assertEqual(state(live), before)


class Copies(LiveTest):
    def prepared(self):
        live = Live(theme())
        for layer in (NIGHT, WIDE, SEAL):
            live.push(layer)
        live.undo()
        live.guards = [READABLE]
        return live

    def test_the_same_in_all(self):
        live = self.prepared()
        other = live.copy()
        self.assertIs(type(other), Live)
        self.assertIsNot(other, live)
        self.assertEqual(state(other), state(live))
        self.assertIs(other.guards[0], READABLE)
        self.assertEqual(Live(Book([])).copy().layers(), [])

    def test_independent(self):
        for action in Trials.ACTIONS:
            for one, other in itertools.permutations(["first", "second"]):
                live = self.prepared()
                both = {"first": live, "second": live.copy()}
                before = state(live)
                try:
                    action(both[one])
                except NothingToUndo:
                    pass
                self.assertEqual(state(both[other]), before)
        live = self.prepared()
        other = live.copy()
        other.undo()
        other.undo()
        other.push([])
        live.redo()
        self.assertEqual((live.layers(), other.layers()), ([NIGHT, WIDE, SEAL], [[]]))

    def test_in_a_trial(self):
        """A copy of a trial stays as it is when the trial ends, and can take back what came before the trial."""
        live = self.prepared()
        with live.trial():
            live.push([])
            live.guards = []
            other = live.copy()
        self.assertEqual((len(live), len(other), other.guards), (2, 3, []))
        for _ in range(3):
            other.undo()
        self.assertEqual((len(live), len(other)), (2, 0))
        with other.trial():
            live.pop()
        self.assertEqual(len(live), 1)


class Reckoned(LiveTest):
    """Random calls, against a model that keeps lists of layers and works everything out anew."""

    def test_many_calls(self):
        maker = Maker(110)
        seen = {}
        for _ in range(120):
            settings = maker.settings()
            live, model = Live(Book(settings)), Model(settings)
            for _ in range(25):
                call, arguments = self.chosen(maker, settings, model)
                outcomes = []
                for target in (live, model):
                    try:
                        outcomes.append(getattr(target, call)(*copy.deepcopy(arguments) if call != "guard" else arguments))
                    except ThemeError as error:
                        outcomes.append((type(error).__name__,
                                         repr(vars(error)) if not isinstance(error, BrokenClaim) else id(error.claim)))
                self.assertEqual(repr(outcomes[0]), repr(outcomes[1]), call)
                word = outcomes[0][0] if isinstance(outcomes[0], tuple) else call
                seen[word] = seen.get(word, 0) + 1
                self.assertEqual(live.layers(), model.stack())
                self.assertEqual(live.book.settings(), model.settings())
                self.assertEqual(len(live), len(model.stack()))
                self.assertEqual([id(claim) for claim in live.guards], [id(claim) for claim in model.claims])
        for word in ("push", "pop", "undo", "redo", "guard", "__setitem__", "BrokenClaim", "NothingToUndo", "NotAllowed",
                     "InvalidLayer", "UnknownName"):
            self.assertGreater(seen.get(word, 0), 20, word)

    def chosen(self, maker, settings, model):
        names = [setting[0] for setting in settings]
        call = maker.dice.choice(["push", "push", "push", "pop", "undo", "undo", "redo", "redo", "guard", "__setitem__",
                                  "__setitem__"])
        if call == "push":
            return call, [maker.dice.choice([maker.allowed_layer(settings)[:2], maker.layer(settings)[:2]])]
        if call == "guard":
            values, claims = model_values(model.settings()), [maker.claim(names, 2, 2) for _ in range(6)]
            holding = [claim for claim in claims if model_holds(claim.conflicts, values)]
            return call, [holding[:2] if maker.dice.random() < 0.8 else [maker.claim(names, 2, 1)]]
        if call == "__setitem__":
            name = maker.dice.choice(names + ["none"])
            values = [maker.number(), maker.dice.choice(names + ["none"]), maker.definition(names), None, True]
            return call, [name, maker.dice.choice(values)]
        return call, []


class Model:
    """A live theme as lists: the changes so far, each a whole list of layers, and a place among them."""

    def __init__(self, settings):
        self.first, self.steps, self.place, self.claims = settings, [[]], 0, []

    def stack(self):
        return self.steps[self.place]

    def settings(self, stack=None):
        settings = self.first
        for layer in self.stack() if stack is None else stack:
            settings = model_after(settings, layer)
        return settings

    def check(self, stack, claims=None):
        for claim in self.claims if claims is None else claims:
            if not model_holds(claim.conflicts, model_values(self.settings(stack))):
                raise BrokenClaim(claim)

    def change(self, stack):
        self.check(stack)
        self.steps, self.place = self.steps[:self.place + 1] + [stack], self.place + 1

    def push(self, layer):
        names = [setting[0] for setting in self.first]
        if any(not self.fits(row, names) for row in layer):
            raise InvalidLayer(layer)
        after = model_after(self.settings(), layer)
        if isinstance(after, int):
            raise NotAllowed(after)
        self.change(self.stack() + [layer])

    def fits(self, row, names):
        if row[0] != "set":
            return row[0] == "seal" or type(row[2]) is int or row[2] in names
        parts = [part for part in row[2] if part is not row[2][0]] if isinstance(row[2], tuple) else [None]
        flat = [item for part in parts for item in (part if isinstance(part, list) else [part])]
        return all(type(item) is int or item in names for item in flat)

    def pop(self):
        if not self.stack():
            raise NothingToUndo()
        layer = self.stack()[-1]
        self.change(self.stack()[:-1])
        return layer

    def undo(self):
        if self.place == 0:
            raise NothingToUndo()
        self.check(self.steps[self.place - 1])
        self.place -= 1

    def redo(self):
        if self.place == len(self.steps) - 1:
            raise NothingToUndo()
        self.check(self.steps[self.place + 1])
        self.place += 1

    def guard(self, claims):
        self.check(self.stack(), claims)
        self.claims = list(claims)

    def __setitem__(self, name, value):
        permissions = {setting[0]: setting[1] for setting in self.settings()}
        if name not in permissions:
            raise UnknownName(name)
        if permissions[name][0] == "extend":
            return self.push([("add", name, value)])
        if type(value) is int:
            value = ("number", value)
        if isinstance(value, str):
            value = ("plus", value, 0)
        return self.push([("set", name, value)])


class NewLists(LiveTest):
    """Nothing that is passed or returned, changed later, changes a live theme."""

    def test_layers_that_were_passed(self):
        live = Live(theme())
        layer = copy.deepcopy(WIDE)
        definition = ("max", ["text", 9])
        live.push(layer)
        live += layer
        live["link"] = definition
        before = state(live)
        layer[0][2][1].append("no")
        layer.append(None)
        definition[1].clear()
        self.assertEqual(state(live), before)
        self.assertEqual(live.layers(), [WIDE, WIDE, [("set", "link", ("max", ["text", 9]))]])
        live.undo()
        self.assertEqual(live.pop(), WIDE)

    def test_layers_that_were_returned(self):
        live = Live(theme())
        live.push(WIDE)
        before = state(live)
        for spoil in (lambda rows: rows[0][2][1].append(5), lambda rows: rows.append(None), lambda rows: rows.clear()):
            layers = live.layers()
            spoil(layers[0])
            layers.append([])
            self.assertEqual(state(live), before)
            with live.trial():
                spoil(live.pop())
                live.undo()
                self.assertEqual(live.layers(), [WIDE])
                live.undo()
                live.redo()
                spoil(live.attempt(Live.pop))
            self.assertEqual(state(live), before)
        spoil(live.pop())
        live.undo()
        self.assertEqual(live.layers(), [WIDE])

    def test_guards(self):
        live = Live(theme())
        for put in (live.guard, lambda claims: setattr(live, "guards", claims)):
            claims = [READABLE]
            put(claims)
            claims.append(DARK)
            self.assertEqual(live.guards, [READABLE])
            live.guards.append(DARK)
            live.guards.clear()
            self.assertEqual(live.guards, [READABLE])
        live.guards += [Claim([])]
        self.assertEqual(live.guards, [READABLE, Claim([])])

    def test_the_book(self):
        book = theme()
        live = Live(book)
        live.push(WIDE)
        for _, permission, definition in live.book.settings():
            for part in permission + definition:
                if isinstance(part, list):
                    part.append(1)
        later = live.book + NIGHT
        self.assertEqual((book, live["ground"], later["ground"]), (theme(), 95, 20))
        self.assertEqual(live.book.settings(), model_after(THEME, WIDE))
        live.book.evaluate()["ground"] = 3
        self.assertEqual(live["ground"], 95)

    def test_equal_calls(self):
        one, other = Live(theme()), Live(theme())
        for live in (one, other):
            live.push(WIDE)
            live["ground"] = 9
            live.undo()
            live.guards = [READABLE]
        self.assertEqual(state(one), state(other))
        self.assertEqual(one(DARK), verdict(theme() + WIDE, DARK)[0])

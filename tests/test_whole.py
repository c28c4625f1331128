"""Points 1 and 2 over the whole program: arguments, the order of errors, and lists that are changed later."""

import copy
import itertools
import unittest

from laterthemes import errors
from laterthemes.books import Book, ring_layer
from laterthemes.claims import Claim, holds
from laterthemes.compare import check_different, check_equivalent, compare, freeze, pair_book, redundant, settled, trim
from laterthemes.duals import breaks, seals
from laterthemes.layers import plain, touched
from laterthemes.live import Live
from laterthemes.spreads import layer_to, risk, safe_limits, spread
from laterthemes.verdicts import alternatives, check_break, check_evidence, verdict
from tests.support import THEME, odd_objects, theme

CLAIM = Claim.contrast("link", "ground", 60)
SURE = Claim.contrast("text", "ground", 40)
LAYER = [("set", "ground", ("number", 50)), ("set", "link", ("max", ["text", 3])), ("add", "edge", "link"), ("seal", "ground")]
EVIDENCE = [("case", "text", [("ring", [(0, "ground", -50), ("ground", "text", 39), ("text", 0, 10)]),
                              ("ring", [(0, "text", -90), ("text", "ground", 39), ("ground", 0, 49)])])]
WIDE = THEME + [("rim", ("sealed", None, None), ("max", ["text", 10, 9]))]
RING = [("a", ("free", 0, 9, ["b"]), ("number", 1)), ("b", ("extend", ["a"]), ("max", [2, 3]))]


def is_whole(x):
    return type(x) is int


def is_end(x):
    return type(x) is int and x == 0 or x in THEME_NAMES


def is_known(x):
    return type(x) is str and x in ("ground", "text", "link", "edge")


THEME_NAMES = [setting[0] for setting in THEME]
# For each kind of parameter: the error, its field, and what odd object is none that is wrong.
KINDS = {
    "settings": ("InvalidBook", "value", lambda x: x == []),
    "book": ("InvalidBook", "value", lambda x: isinstance(x, Book)),
    "claim": ("InvalidClaim", "value", lambda x: isinstance(x, Claim)),
    "conflicts": ("InvalidClaim", "value", lambda x: x in ([], [[("ground", 0, 1)]])),
    "fact end": ("InvalidClaim", "value", lambda x: is_whole(x) and x == 0 or type(x) is str and x.isalpha()),
    "end": ("UnknownName", "name", is_end),
    "name": ("UnknownName", "name", is_known),
    "free name": ("UnknownName", "name", is_known),
    "number": ("InvalidNumber", "value", is_whole),
    "layer": ("InvalidLayer", "value", lambda x: x == []),
    "loose": ("InvalidList", "value", lambda x: x in ([], (), ["ground"], ("ground",))),
    "claims": ("InvalidList", "value", lambda x: x == [] or x == [Claim([])]),
    "any": None,
}
ENDS = [("one", "fact end", "link"), ("other", "fact end", "ground"), ("k", "number", 60)]
# For each function: its parameters in order, with their kinds and arguments that fit.
CALLS = [
    (Book, [("settings", "settings", THEME)]), (ring_layer, [("settings", "settings", RING)]),
    (Claim, [("conflicts", "conflicts", CLAIM.conflicts)]),
    (Claim.at_least, ENDS), (Claim.at_most, ENDS), (Claim.contrast, ENDS), (Claim.within, ENDS), (Claim.equal, ENDS[:2]),
    (touched, [("book", "book", theme()), ("layer", "layer", LAYER)]),
    (plain, [("book", "book", theme()), ("layer", "layer", LAYER)]),
    (holds, [("book", "book", theme()), ("claim", "claim", CLAIM)]),
    (alternatives, [("book", "book", theme()), ("name", "name", "text")]),
    (verdict, [("book", "book", theme()), ("claim", "claim", SURE)]),
    (verdict, [("book", "book", theme()), ("claim", "claim", CLAIM)]),
    (check_evidence, [("book", "book", theme()), ("claim", "claim", SURE), ("evidence", "any", EVIDENCE)]),
    (check_break, [("book", "book", theme()), ("claim", "claim", CLAIM), ("layer", "any", LAYER)]),
    (breaks, [("book", "book", theme()), ("claim", "claim", CLAIM), ("loose", "loose", ["edge"])]),
    (seals, [("book", "book", theme()), ("claim", "claim", CLAIM), ("loose", "loose", ["edge"])]),
    (spread, [("book", "book", theme()), ("one", "end", "text"), ("other", "end", "ground")]),
    (risk, [("book", "book", theme()), ("claim", "claim", CLAIM), ("one", "end", "text"), ("other", "end", 0)]),
    (layer_to, [("book", "book", theme()), ("one", "end", "edge"), ("other", "end", 0), ("number", "number", 77)]),
    (safe_limits, [("book", "book", theme()), ("claim", "claim", CLAIM), ("name", "free name", "ground")]),
    (pair_book, [("one", "book", theme()), ("other", "book", theme()), ("name", "name", "text")]),
    (compare, [("one", "book", theme()), ("other", "book", theme())]),
    (compare, [("one", "book", theme()), ("other", "book", theme() + LAYER[:3])]),
    (check_equivalent, [("one", "book", theme()), ("other", "book", theme()), ("shown", "any", compare(theme(), theme())[1])]),
    (check_different, [("one", "book", theme()), ("other", "book", theme()), ("layer", "any", LAYER)]),
    (settled, [("book", "book", Book(WIDE))]), (freeze, [("book", "book", Book(WIDE))]),
    (redundant, [("book", "book", Book(WIDE))]),
    (trim, [("book", "book", Book(WIDE))]), (Live, [("book", "book", theme())]),
]
KEYWORD_ONLY = ["loose"]


def told(x):
    """All that can be told of an object, in one string."""
    if isinstance(x, Book):
        return "book " + repr(x.settings())
    if isinstance(x, Claim):
        return "claim " + repr(x.conflicts)
    if isinstance(x, Live):
        return f"live {told(x.book)} {x.layers()} {told(x.guards)}"
    if isinstance(x, (list, tuple)):
        return type(x).__name__ + "".join("(" + told(part) + ")" for part in x)
    if isinstance(x, dict):
        return "dict" + told(list(x.items()))
    return repr(x)


def spoil(x):
    """Change every list and dictionary in an object, the inner ones first."""
    if isinstance(x, (list, tuple, dict)):
        for part in x.values() if isinstance(x, dict) else x:
            spoil(part)
    if isinstance(x, list):
        x.insert(0, "spoiled")
        x.reverse()
        x.append(None)
    if isinstance(x, dict):
        x.clear()
        x["spoiled"] = []


def fresh(parameters):
    """The arguments that fit, with lists and tuples of their own."""
    return {name: value if kind in ("book", "claim") else copy.deepcopy(value) for name, kind, value in parameters}


def called(call, arguments, by_name):
    """The result of a call with a dictionary of arguments, by position or by name."""
    if by_name:
        return call(**dict(reversed(arguments.items())))
    named = {name: value for name, value in arguments.items() if name in KEYWORD_ONLY}
    return call(*[value for name, value in arguments.items() if name not in named], **named)


class Arguments(unittest.TestCase):
    def test_all_functions_are_here(self):
        self.assertEqual(len({call.__qualname__ for call, _ in CALLS}), 30)

    def test_by_position_and_by_name(self):
        for call, parameters in CALLS:
            results = {told(called(call, fresh(parameters), by_name)) for by_name in (True, False)}
            self.assertEqual(len(results), 1, call)
            count = len([name for name, _, _ in parameters if name not in KEYWORD_ONLY])
            for split in range(count + 1):
                arguments = list(fresh(parameters).items())
                result = call(*[value for _, value in arguments[:split]], **dict(arguments[split:]))
                self.assertEqual({told(result)}, results)

    def test_what_follows_a_star_is_passed_by_name_only(self):
        for call in (breaks, seals):
            with self.assertRaises(TypeError):
                call(theme(), CLAIM, ["edge"])

    def test_arguments_are_not_changed(self):
        for call, parameters in CALLS:
            arguments = fresh(parameters)
            before = told(arguments)
            called(call, arguments, True)
            self.assertEqual(told(arguments), before, call)


class Errors(unittest.TestCase):
    def wrong(self, kind):
        """Odd objects that are wrong for a kind of parameters."""
        if KINDS[kind] is None:
            return []
        return [odd for odd in odd_objects() if not KINDS[kind][2](odd)]

    def assert_error(self, call, arguments, name, kind):
        """The error is that for this parameter, and the arguments stay as they are."""
        error, field, _ = KINDS[kind]
        before = told(arguments)
        for by_name in (False, True):
            with self.assertRaises(errors.ThemeError) as caught:
                called(call, arguments, by_name)
            self.assertIs(type(caught.exception), getattr(errors, error), (call, arguments))
            self.assertIs(getattr(caught.exception, field), arguments[name])
        self.assertEqual(told(arguments), before)

    def test_each_wrong_argument(self):
        for call, parameters in CALLS:
            for name, kind, _ in parameters:
                wrong = self.wrong(kind)
                self.assertTrue(len(wrong) > 15 or kind == "any")
                for odd in wrong:
                    self.assert_error(call, {**fresh(parameters), name: odd}, name, kind)

    def test_the_first_of_several_wrong_arguments(self):
        """Whatever the others are, and whatever their errors."""
        for call, parameters in CALLS:
            for (name, kind, _), (later, _, _) in itertools.combinations(parameters, 2):
                for odd, other in itertools.product(self.wrong(kind)[::4], odd_objects()[::3] + [["no"]]):
                    self.assert_error(call, {**fresh(parameters), name: odd, later: other}, name, kind)

    def test_all_arguments_wrong(self):
        for call, parameters in CALLS:
            first = next(((name, kind) for name, kind, _ in parameters if kind != "any"), None)
            for at in range(6):
                arguments = {name: (self.wrong(kind) or odd_objects())[at] for name, kind, _ in parameters}
                self.assert_error(call, arguments, *first)

    def test_unknown_names_in_claims(self):
        """They come with the argument: after a wrong book, before what is wrong behind the claim."""
        unknown = Claim([[("ground", "text", 1), (0, "no", 0)], [("yes", 0, 0)]])
        for call, parameters in CALLS:
            if "claim" in [kind for _, kind, _ in parameters]:
                for later in odd_objects():
                    arguments = {name: value if kind == "book" else unknown if kind == "claim" else later for name, kind,
                                 value in parameters}
                    with self.assertRaises(errors.UnknownName) as caught:
                        called(call, arguments, True)
                    self.assertEqual(caught.exception.name, "no")
                    with self.assertRaises(errors.InvalidBook):
                        called(call, {**arguments, "book": None}, False)

    def test_books_that_do_not_match(self):
        """MismatchedBooks comes after InvalidBook and before all other errors."""
        for call, parameters in CALLS:
            if [name for name, _, _ in parameters[:2]] == ["one", "other"] and parameters[0][1] == "book":
                for later in odd_objects():
                    arguments = {name: value if kind == "book" else later for name, kind, value in parameters}
                    for books in ({"one": Book([])}, {"other": Book(WIDE)}):
                        with self.assertRaises(errors.MismatchedBooks):
                            called(call, {**arguments, **books}, True)
                    for books in ({"one": None, "other": Book([])}, {"one": Book([]), "other": None}):
                        with self.assertRaises(errors.InvalidBook):
                            called(call, {**arguments, **books}, False)

    def test_layers(self):
        """NotAllowed comes behind InvalidLayer, which looks at all rows."""
        for call in (touched, plain, lambda book, layer: book + layer, lambda book, layer: Live(book).push(layer)):
            for layer, kind in [([("seal", "text"), None], errors.InvalidLayer),
                                ([("seal", "text"), ("seal", "no")], errors.InvalidLayer),
                                ([("seal", "text"), ("seal", "edge")], errors.NotAllowed)]:
                with self.assertRaises(kind):
                    call(theme(), layer)

    def test_live_themes(self):
        for call, kind in [(lambda live, odd: live.push(odd), "layer"), (lambda live, odd: live.__iadd__(odd), "layer"),
                           (lambda live, odd: live.guard(odd), "claims"),
                           (lambda live, odd: setattr(live, "guards", odd), "claims"),
                           (lambda live, odd: live[odd], "name"), (lambda live, odd: live.__setitem__(odd, None), "name"),
                           (lambda live, odd: live(odd), "claim")]:
            for odd in self.wrong(kind):
                live = Live(theme())
                live.push(LAYER)
                live.guards = [SURE]
                before = told(live)
                error, field, _ = KINDS[kind]
                with self.assertRaises(getattr(errors, error)) as caught:
                    call(live, odd)
                self.assertIs(getattr(caught.exception, field), odd)
                self.assertEqual(told(live), before)


class NewLists(unittest.TestCase):
    def test_what_was_returned_is_changed(self):
        """Equal calls return equal results, whatever became of those before."""
        for call, parameters in CALLS:
            arguments = fresh(parameters)
            result = called(call, arguments, False)
            before = told(result), told(arguments)
            for part in (result, *[part() for part in readings(result)]):
                spoil(part)
            self.assertEqual(told(arguments), before[1], call)
            self.assertEqual(told(called(call, arguments, False)), before[0], call)
            self.assertEqual(told(called(call, fresh(parameters), True)), before[0], call)
            if isinstance(result, (Book, Claim, Live)):
                self.assertEqual(told(result), before[0])

    def test_what_was_passed_is_changed(self):
        """No answer, no book and no claim is changed by it."""
        for call, parameters in CALLS:
            arguments = fresh(parameters)
            result = called(call, arguments, False)
            before = told(result)
            books = {name: told(value) for name, value in arguments.items() if isinstance(value, (Book, Claim))}
            spoil(arguments)
            self.assertEqual(told(result), before, call)
            self.assertEqual({name: told(value) for name, kind, value in parameters if name in books}, books)

    def test_readings_of_books_and_claims(self):
        for made in (theme(), theme() + LAYER, CLAIM, freeze(theme()), trim(Book(WIDE)), pair_book(theme(), theme(), "edge"),
                     CLAIM & SURE):
            for read in readings(made):
                before = told(read())
                self.assertIsNot(read(), read())
                spoil(read())
                self.assertEqual(told(read()), before)

    def test_books_and_claims_are_not_changed_by_operators(self):
        book, layer, claim, other = theme(), copy.deepcopy(LAYER), Claim(CLAIM.conflicts), Claim(SURE.conflicts)
        later, both = book + layer, claim & other
        before = [told(x) for x in (book, later, claim, other, both)]
        spoil(layer)
        for x in (later, both, book, claim, other):
            for read in readings(x):
                spoil(read())
        self.assertEqual([told(x) for x in (book, later, claim, other, both)], before)
        self.assertEqual(book, theme())

    def test_fields_of_errors_are_the_arguments(self):
        for call, value in [(Book, [["a"]]), (Claim, [[["a"]]]), (theme().__add__, [["a"]]), (Live(theme()).push, [["a"]]),
                            (Live(theme()).guard, [["a"]])]:
            with self.assertRaises(errors.ThemeError) as caught:
                call(value)
            self.assertIs(caught.exception.value, value)

    def test_a_ring_that_was_returned(self):
        for _ in range(2):
            with self.assertRaises(errors.PossibleRing) as caught:
                Book(RING)
            self.assertEqual(sorted(caught.exception.ring), ["a", "b"])
            spoil(caught.exception.ring)


def readings(x):
    """Functions that read lists and dictionaries off a book, a claim or a live theme."""
    if isinstance(x, Book):
        return [x.names, x.settings, x.evaluate, x.ranks] + [lambda name=name: list(x.setting(name)) for name in x.names()]
    if isinstance(x, Claim):
        return [lambda: x.conflicts]
    if isinstance(x, Live):
        return [x.layers, lambda: x.guards] + readings(x.book)
    return []

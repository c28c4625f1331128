"""Points 30 to 32: claims, the common ones, and whether they hold; and the errors of functions with a book and a claim."""

import itertools
import unittest

from laterthemes.books import Book
from laterthemes.claims import Claim, holds
from laterthemes.duals import breaks, seals
from laterthemes.errors import InvalidBook, InvalidClaim, InvalidNumber, UnknownName
from laterthemes.verdicts import check_break, check_evidence, verdict
from tests.reckoning import model_holds
from tests.samples import NOT_NAMES, NOT_WHOLE
from tests.support import THEME, Maker, model_values, odd_objects, theme

BIG = 10 ** 40 - 1
FACTS = [(0, 0, 0), (0, 0, -1), ("a", 0, 1), (0, "a", -1), ("a", "a", 0), ("a", "a", -5), ("a", "b", BIG),
         ("b", "abcdefghij", -BIG), ("max", "zzzzzzzzzz", 7)]
NOT_ENDS = [name for name in NOT_NAMES if name is not True and name not in (0, 1)] + [
    True, False, 1, -1, 10 ** 39, None, (0,), [0], {0: 0}, "0", Claim([])]


def good_conflicts():
    yield []
    for fact in FACTS:
        yield from [[[fact]], [[fact, fact]], [[fact], [fact]], [[(0, "a", 2), fact], [fact]]]
    yield [FACTS[:4], FACTS[4:8], [FACTS[8]]]
    yield [[fact] for fact in FACTS[:6]]


def bad_facts():
    yield from [fact for fact in odd_objects() if fact != ("ground", 0, 1)]
    yield from [("a", 0), ("a", 0, 1, 2), ("a", 0, 1, None), ["a", 0, 1], ("a",), "a", "a01", {"a": 0}, (("a", 0, 1),),
                [("a", 0, 1)], ("a", (0, 1)), (1, "a", 0), ("a", 1, 0)]
    for end in NOT_ENDS:
        yield from [(end, 0, 1), (0, end, 1), (end, end, 1), ("a", end, 1), (end, "a", -1)]
    for number in NOT_WHOLE:
        yield from [(0, 0, number), ("a", "b", number), ("a", 0, number)]


def bad_conflicts():
    """Objects that are no list of conflicts, each with one thing that does not fit."""
    for value in odd_objects():
        if value not in ([], [[("ground", 0, 1)]]):
            yield value
    yield from [[[]], [[("a", 0, 1)], []], [[], [("a", 0, 1)]], ([("a", 0, 1)],), ([],), [(("a", 0, 1),)], [("a", 0, 1)],
                ("a", 0, 1), [[("a", 0, 1)], (("a", 0, 1),)], [[("a", 0, 1)], None], [None, [("a", 0, 1)]], [[[("a", 0, 1)]]],
                {("a", 0, 1): [("a", 0, 1)]}, [{("a", 0, 1): True}], "a01", ["a01"], [["a01"]]]
    for fact in bad_facts():
        yield from [[[fact]], [[("a", 0, 1), fact]], [[fact, ("a", 0, 1)]], [[("a", 0, 1)], [fact]], [[fact], [("a", 0, 1)]]]


class Claims(unittest.TestCase):
    def test_conflicts_that_fit(self):
        for conflicts in good_conflicts():
            with self.subTest(conflicts=conflicts):
                before = repr(conflicts)
                claim = Claim(conflicts)
                self.assertIs(type(claim), Claim)
                self.assertEqual(claim.conflicts, conflicts)
                self.assertEqual(repr(claim.conflicts), before)
                self.assertEqual(repr(conflicts), before)

    def test_conflicts_that_do_not_fit(self):
        for value in bad_conflicts():
            with self.subTest(value=value):
                before = repr(value)
                with self.assertRaises(InvalidClaim) as caught:
                    Claim(value)
                self.assertIs(caught.exception.value, value)
                self.assertEqual(repr(value), before)

    def test_names_of_ten_letters_and_of_eleven(self):
        self.assertEqual(Claim([[("a" * 10, "z" * 10, 0)]]).conflicts, [[("a" * 10, "z" * 10, 0)]])
        for fact in [("a" * 11, 0, 0), (0, "a" * 11, 0), ("", 0, 0), (0, "", 0)]:
            with self.assertRaises(InvalidClaim):
                Claim([[fact]])

    def test_kinds_of_what_is_returned(self):
        claim = Claim([[("a", 0, 1), (0, "b", 2)], [("b", "b", -1)]])
        self.assertIs(type(claim.conflicts), list)
        self.assertEqual([type(conflict) for conflict in claim.conflicts], [list, list])
        self.assertEqual([type(fact) for conflict in claim.conflicts for fact in conflict], [tuple] * 3)

    def test_what_was_passed_is_changed_afterwards(self):
        conflicts = [[("a", 0, 1)], [("b", 0, 2)]]
        claim = Claim(conflicts)
        conflicts[0].append(("c", 0, 3))
        conflicts[1][0] = None
        conflicts.append([])
        self.assertEqual(claim.conflicts, [[("a", 0, 1)], [("b", 0, 2)]])

    def test_what_was_returned_is_changed_afterwards(self):
        one, other = Claim([[("a", 0, 1)]]), Claim([[("b", 0, 2)], [("c", 0, 3)]])
        both = one & other
        for claim in (one, other, both):
            expected = repr(claim.conflicts)
            returned = claim.conflicts
            returned[0].clear()
            returned.append(None)
            self.assertEqual(repr(claim.conflicts), expected)
            self.assertIsNot(claim.conflicts, claim.conflicts)
            self.assertIsNot(claim.conflicts[0], claim.conflicts[0])
        self.assertEqual(both.conflicts, [[("a", 0, 1)], [("b", 0, 2)], [("c", 0, 3)]])

    def test_the_same_list_for_two_conflicts(self):
        conflict = [("a", 0, 1)]
        claim = Claim([conflict, conflict])
        claim.conflicts[0].append(("b", 0, 1))
        conflict.append(("b", 0, 1))
        self.assertEqual(claim.conflicts, [[("a", 0, 1)], [("a", 0, 1)]])

    def test_both_claims(self):
        samples = list(good_conflicts())
        for one, other in itertools.product(samples[::3], samples[::4]):
            first, second = Claim(one), Claim(other)
            both = first & second
            self.assertIs(type(both), Claim)
            self.assertEqual(both.conflicts, one + other)
            self.assertEqual((first.conflicts, second.conflicts), (one, other))

    def test_equal_claims(self):
        samples = list(good_conflicts())
        for (k, one), (n, other) in itertools.product(enumerate(samples), enumerate(samples)):
            self.assertIs(Claim(one) == Claim(other), one == other)
            self.assertIs(Claim(one) != Claim(other), one != other)
            self.assertTrue(k != n or Claim(one) == Claim(other))
        self.assertEqual(Claim([[("a", 0, 1)]]) & Claim([[("b", 0, 1)]]), Claim([[("a", 0, 1)], [("b", 0, 1)]]))
        self.assertNotEqual(Claim([[("b", 0, 1)], [("a", 0, 1)]]), Claim([[("a", 0, 1)], [("b", 0, 1)]]))

    def test_a_claim_is_not_equal_to_another_object(self):
        for conflicts in good_conflicts():
            claim = Claim(conflicts)
            for other in odd_objects() + [conflicts, tuple(conflicts), {"conflicts": conflicts}, Book([])]:
                if not isinstance(other, Claim):
                    self.assertIs(claim == other, False)
                    self.assertIs(other == claim, False)
                    self.assertIs(claim != other, True)


COMMON = {
    "at_least": (3, lambda x, y, k: x >= y + k, lambda x, y, k: [[(x, y, k - 1)]]),
    "at_most": (3, lambda x, y, k: x <= y + k, lambda x, y, k: [[(y, x, -k - 1)]]),
    "equal": (2, lambda x, y: x == y, lambda x, y: [[(x, y, -1)], [(y, x, -1)]]),
    "contrast": (3, lambda x, y, k: abs(x - y) >= k, lambda x, y, k: [[(x, y, k - 1), (y, x, k - 1)]]),
    "within": (3, lambda x, y, k: abs(x - y) <= k, lambda x, y, k: [[(x, y, -k - 1)], [(y, x, -k - 1)]]),
}
ENDS = ["a", "b", "abcdefghij", 0]


class CommonClaims(unittest.TestCase):
    def arguments(self, count, numbers):
        if count == 2:
            return list(itertools.product(ENDS, ENDS))
        return list(itertools.product(ENDS, ENDS, numbers))

    def test_conflicts_of_the_table(self):
        for name, (count, _, conflicts) in COMMON.items():
            for values in self.arguments(count, [0, 1, -1, 41, -7, BIG, -BIG]):
                with self.subTest(name=name, values=values):
                    claim = getattr(Claim, name)(*values)
                    self.assertIs(type(claim), Claim)
                    self.assertEqual(repr(claim.conflicts), repr(conflicts(*values)))

    def test_arguments_by_name(self):
        for name, (count, _, _) in COMMON.items():
            values = dict(zip(["one", "other", "k"][:count], ["a", 0, 3]))
            expected = getattr(Claim, name)(*values.values())
            for order in itertools.permutations(values):
                self.assertEqual(getattr(Claim, name)(**{key: values[key] for key in order}), expected)
            self.assertEqual(getattr(expected, name)(*values.values()), expected)

    def test_inequalities_of_the_table(self):
        for name, (count, is_so, _) in COMMON.items():
            for k in range(-3, 4):
                rest = () if count == 2 else (k,)
                for x, y in itertools.product(range(-4, 5), repeat=2):
                    book = Book([("a", ("free", None, None, []), ("number", x)), ("b", ("sealed", None, None), ("number", y))])
                    calls = [(("a", "b"), (x, y)), (("b", "a"), (y, x)), (("a", 0), (x, 0)), ((0, "b"), (0, y)),
                             (("a", "a"), (x, x)), ((0, 0), (0, 0))]
                    for ends, numbers in calls:
                        result = holds(book, getattr(Claim, name)(*ends, *rest))
                        self.assertIs(result, is_so(*numbers, *rest), (name, ends, numbers, rest))

    def test_wrong_ends(self):
        for name, (count, _, _) in COMMON.items():
            rest = () if count == 2 else (1,)
            for end in NOT_ENDS:
                for values in [(end, "a"), ("a", end), (0, end), (end, 0)]:
                    with self.subTest(name=name, values=values), self.assertRaises(InvalidClaim) as caught:
                        getattr(Claim, name)(*values, *rest)
                    self.assertIs(caught.exception.value, end)

    def test_wrong_numbers(self):
        for name, (count, _, _) in COMMON.items():
            for number in NOT_WHOLE if count == 3 else []:
                with self.subTest(name=name, number=number), self.assertRaises(InvalidNumber) as caught:
                    getattr(Claim, name)("a", 0, number)
                self.assertIs(caught.exception.value, number)

    def test_two_wrong_arguments(self):
        wrong, second = ["a"], {"b": 1}
        for name, (count, _, _) in COMMON.items():
            rest = () if count == 2 else (second,)
            calls = [((wrong, second) + rest, wrong)]
            if count == 3:
                calls += [((wrong, "a", second), wrong), (("a", wrong, second), wrong), ((True, wrong, second), True)]
            for values, expected in calls:
                with self.subTest(name=name, values=values), self.assertRaises(InvalidClaim) as caught:
                    getattr(Claim, name)(*values)
                self.assertIs(caught.exception.value, expected)
            with self.assertRaises(InvalidClaim) as caught:
                getattr(Claim, name)(**dict(zip(["k", "other", "one"][3 - count:], [second, second, wrong][3 - count:])))
            self.assertIs(caught.exception.value, wrong)


class Holds(unittest.TestCase):
    def test_values_at_the_edge(self):
        book = theme()
        for k, expected in [(19, False), (20, True), (21, True), (0, False)]:
            self.assertIs(holds(book, Claim([[("text", "link", -k - 1)]])), not k < 20)
            self.assertIs(holds(book, Claim.at_most("link", "text", k)), expected)
        self.assertIs(holds(book, Claim([])), True)
        self.assertIs(holds(Book([]), Claim([])), True)
        self.assertIs(holds(Book([]), Claim([[(0, 0, 0)]])), False)
        self.assertIs(holds(Book([]), Claim([[(0, 0, 0), (0, 0, -1)]])), True)
        self.assertIs(holds(Book([]), Claim([[(0, 0, -1)], [(0, 0, 5)]])), False)
        self.assertIs(holds(book, Claim([[("ground", 0, 95)]])), False)
        self.assertIs(holds(book, Claim([[("ground", 0, 94)]])), True)
        self.assertIs(holds(book, Claim([[(0, "ground", -95)]])), False)
        self.assertIs(holds(book, Claim([[(0, "ground", -96)]])), True)

    def test_against_a_reckoning(self):
        maker = Maker(30)
        seen = {True: 0, False: 0}
        for _ in range(400):
            settings = maker.settings()
            claim = maker.claim([setting[0] for setting in settings])
            expected = model_holds(claim.conflicts, model_values(settings))
            before = repr(claim.conflicts)
            self.assertIs(holds(Book(settings), claim), expected)
            self.assertIs(holds(book=Book(settings), claim=claim), expected)
            self.assertEqual(repr(claim.conflicts), before)
            seen[expected] += 1
        self.assertGreater(min(seen.values()), 50)

    def test_long_numbers(self):
        book = Book([("a", ("free", None, None, []), ("number", BIG)), ("b", ("sealed", None, None), ("plus", "a", BIG))])
        self.assertIs(holds(book, Claim.at_least("b", "a", BIG)), True)
        self.assertIs(holds(book, Claim.at_least("b", 0, 2 * BIG + 1)), False)
        self.assertIs(holds(book, Claim.equal("b", "a") & Claim([])), False)


CALLS = {
    "holds": lambda book, claim: holds(book, claim),
    "holds by name": lambda book, claim: holds(claim=claim, book=book),
    "verdict": lambda book, claim: verdict(book, claim),
    "verdict by name": lambda book, claim: verdict(claim=claim, book=book),
    "check_evidence": lambda book, claim: check_evidence(book, claim, []),
    "check_evidence with any object": lambda book, claim: check_evidence(evidence=None, claim=claim, book=book),
    "check_break": lambda book, claim: check_break(book, claim, []),
    "check_break with any object": lambda book, claim: check_break(layer=None, claim=claim, book=book),
    "breaks": lambda book, claim: breaks(book, claim),
    "breaks by name": lambda book, claim: breaks(loose=[], claim=claim, book=book),
    "breaks with a wrong list": lambda book, claim: breaks(book, claim, loose=None),
    "seals": lambda book, claim: seals(book, claim),
    "seals by name": lambda book, claim: seals(loose=(), claim=claim, book=book),
    "seals with a wrong list": lambda book, claim: seals(book, claim, loose=["text"]),
}


class Errors(unittest.TestCase):
    """The errors for a book and a claim in all functions that have both."""

    def assert_raises(self, kind, field, value, book, claim):
        for label, call in CALLS.items():
            with self.subTest(call=label, value=value), self.assertRaises(kind) as caught:
                call(book, claim)
            self.assertIs(type(caught.exception), kind)
            self.assertIs(getattr(caught.exception, field), value)

    def test_no_book(self):
        for book in odd_objects() + [THEME]:
            if not isinstance(book, Book):
                for claim in [Claim([]), Claim([[("no", 0, 0)]]), None, [[("no", 0, 0)]]]:
                    self.assert_raises(InvalidBook, "value", book, book, claim)

    def test_no_claim(self):
        for claim in odd_objects() + [[[(0, 0, 0)]]]:
            if not isinstance(claim, Claim):
                self.assert_raises(InvalidClaim, "value", claim, theme(), claim)

    def test_unknown_name(self):
        known = ("ground", "text", 0)
        cases = [
            ([[("no", 0, 0)]], "no"), ([[(0, "no", 0)]], "no"), ([[("yes", "no", 0)]], "yes"),
            ([[known, ("text", "no", 1), ("yes", 0, 1)]], "no"), ([[known], [known, ("edge", "link", 0)], [("no", "yes", 0)]], "no"),
            ([[(0, "no", 0)], [("yes", 0, 0)]], "no"), ([[(0, "zz", 0), ("aa", 0, 0)]], "zz"),
            ([[(0, 0, 0)], [("grounds", "no", 0)]], "grounds"), ([[("z", "z", 0)]], "z"), ([[("max", 0, 0)]], "max"),
        ]
        for conflicts, name in cases:
            for label, call in CALLS.items():
                with self.subTest(call=label, conflicts=conflicts), self.assertRaises(UnknownName) as caught:
                    call(theme(), Claim(conflicts))
                self.assertEqual(caught.exception.name, name)

    def test_unknown_name_in_each_place(self):
        good = [[("ground", "text", 0), (0, "link", 3)], [("edge", 0, 1)], [("edge", "edge", 1), ("text", "ground", -4)]]
        places = [(at, k, end) for at, conflict in enumerate(good) for k in range(len(conflict)) for end in (0, 1)]
        for count in (1, 2, 3):
            for chosen in itertools.combinations(places, count):
                conflicts = [[list(fact) for fact in conflict] for conflict in good]
                for number, (at, k, end) in enumerate(chosen):
                    conflicts[at][k][end] = "bcd"[number]
                claim = Claim([[tuple(fact) for fact in conflict] for conflict in conflicts])
                with self.assertRaises(UnknownName) as caught:
                    holds(theme(), claim)
                self.assertEqual(caught.exception.name, "b")

    def test_every_name_is_unknown_in_a_book_without_settings(self):
        for label, call in CALLS.items():
            with self.subTest(call=label), self.assertRaises(UnknownName) as caught:
                call(Book([]), Claim([[(0, 0, 1)], [(0, "text", 1)]]))
            self.assertEqual(caught.exception.name, "text")

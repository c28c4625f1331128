"""Points 34 and 35: what check_evidence says of evidence, of evidence with one thing changed, and of any object."""

import itertools
import unittest

from laterthemes.books import Book
from laterthemes.claims import Claim
from laterthemes.verdicts import check_evidence, verdict
from tests.reckoning import is_plain_fact, model_alternatives, model_is_evidence
from tests.support import Maker, odd_objects, theme

CLAIM = Claim.contrast("text", "ground", 40)
LIGHT = [(0, "ground", -50), ("ground", "text", 39), ("text", 0, 10)]
DARK = [(0, "text", -90), ("text", "ground", 39), ("ground", 0, 49)]
SHOWN = [("case", "text", [("ring", LIGHT), ("ring", DARK)])]


def changed_objects(value):
    """Everything that becomes of an object by one change in one place: another object, or a list of another length."""
    if isinstance(value, (list, tuple)):
        kind = type(value)
        yield (tuple if kind is list else list)(value)
        for at, part in enumerate(value):
            for other in changed_objects(part):
                yield kind(value[:at]) + kind([other]) + kind(value[at + 1:])
            yield value[:at] + value[at + 1:]
            yield value[:at] + kind([part, part]) + value[at + 1:]
            for later in range(at + 1, len(value)):
                yield value[:at] + kind([value[later]]) + value[at + 1:later] + kind([part]) + value[later + 1:]
        yield value + kind([None])
        yield value[:0]
    elif isinstance(value, str):
        yield from [name for name in ("case", "ring", "ground", "text", "link", "edge", "no") if name != value]
    else:
        yield from [value + 1, value - 1, bool(value), str(value), -value - 1]
    yield from odd_objects()


class Written(unittest.TestCase):
    def assert_is(self, expected, evidence, claim=CLAIM, book=None):
        book = book or theme()
        before = repr(evidence), repr(claim.conflicts), repr(book.settings())
        self.assertIs(check_evidence(book, claim, evidence), expected, evidence)
        self.assertIs(check_evidence(evidence=evidence, claim=claim, book=book), expected)
        self.assertEqual((repr(evidence), repr(claim.conflicts), repr(book.settings())), before)
        self.assertIs(model_is_evidence(book.settings(), claim.conflicts, evidence), expected, evidence)

    def test_of_the_document(self):
        self.assert_is(True, SHOWN)
        for k in (39, 1, 0, -3):
            self.assert_is(False, SHOWN, Claim.contrast("text", "ground", k))
        self.assert_is(False, SHOWN, Claim.contrast("ground", "text", 41))
        # The facts of the two claims are the same, in another order.
        self.assert_is(True, SHOWN, Claim.contrast("ground", "text", 40))

    def test_rings_may_begin_anywhere(self):
        for first, second in itertools.product(range(3), range(3)):
            evidence = [("case", "text", [("ring", LIGHT[first:] + LIGHT[:first]), ("ring", DARK[second:] + DARK[:second])])]
            self.assert_is(True, evidence)

    def test_facts_may_be_doubled(self):
        self.assert_is(True, [("case", "text", [("ring", LIGHT * 2), ("ring", DARK * 30)])])
        self.assert_is(False, [("case", "text", [("ring", LIGHT[:1] * 2 + LIGHT[1:]), ("ring", DARK)])])

    def test_the_order_of_the_facts_counts(self):
        for ring in itertools.permutations(LIGHT):
            turns = [LIGHT[at:] + LIGHT[:at] for at in range(3)]
            self.assert_is(list(ring) in turns, [("case", "text", [("ring", list(ring)), ("ring", DARK)])])

    def test_rings_of_which_a_part_is_a_ring(self):
        book = Book([("a", ("free", 0, 0, []), ("number", 0)), ("b", ("free", 2, 2, []), ("number", 2))])
        claim = Claim([[("b", "a", 1)]])
        wide, narrow = [("a", 0, 0), (0, "a", 0)], [("b", "a", 1), ("a", 0, 0), (0, "b", -2)]
        for ring, expected in [(narrow, True), (wide, False), (narrow + [("b", "a", 1)] + wide[:1], False),
                               ([("b", "a", 1)] + wide + narrow[1:], True), (wide[::-1] * 4 + [(0, "b", -2)] + narrow[:2], True),
                               ([(0, "b", -2), ("b", 0, 2)], False)]:
            evidence = [("case", "a", [("case", "b", [("ring", ring)])])]
            self.assert_is(expected, evidence, claim, book)

    def test_a_sum_of_zero_is_not_enough(self):
        book = Book([("a", ("free", None, 4, []), ("number", 0))])
        for k, expected in [(-6, True), (-5, True), (-4, False), (-3, False), (0, False)]:
            self.assert_is(expected, [("case", "a", [("ring", [(0, "a", k), ("a", 0, 4)])])], Claim([[(0, "a", k)]]), book)

    def test_one_fact_is_a_ring(self):
        for book in (Book([]), theme()):
            self.assert_is(True, [("ring", [(0, 0, -1)])], Claim([[(0, 0, -1)]]), book)
            self.assert_is(False, [("ring", [(0, 0, 0)])], Claim([[(0, 0, 0)]]), book)
            self.assert_is(False, [("ring", [(0, 0, -1)])], Claim([[(0, 0, 0)]]), book)
        self.assert_is(True, [("ring", [("text", "text", -1)])], Claim([[("text", "text", -1)]]))
        self.assert_is(False, [("ring", [("text", "ground", -1)])], Claim([[("text", "ground", -1)]]))
        self.assert_is(False, [("ring", [])], Claim([[(0, 0, -1)]]))

    def test_equal_facts_of_the_conflict_and_of_an_alternative(self):
        book = Book([("a", ("free", 0, 4, []), ("number", 0))])
        claim = Claim([[(0, "a", -5), ("a", 0, 4)]])
        self.assert_is(True, [("ring", [(0, "a", -5), ("a", 0, 4)])], claim, book)
        self.assert_is(True, [("case", "a", [("ring", [("a", 0, 4), (0, "a", -5)])])], claim, book)

    def test_a_tree_for_each_conflict(self):
        one, other = [("ring", [(0, 0, -1)])], [("ring", [(0, 0, -2)])]
        claim = Claim([[(0, 0, -1)], [(0, 0, -2)]])
        self.assert_is(True, one + other, claim)
        for evidence in (other + one, one, other, [], one + other + one, one + one, other + other):
            self.assert_is(False, evidence, claim)
        self.assert_is(True, [], Claim([]))
        self.assert_is(False, one, Claim([]))
        self.assert_is(False, SHOWN * 2)
        self.assert_is(True, SHOWN * 2, CLAIM & CLAIM)
        self.assert_is(False, SHOWN, CLAIM & CLAIM)

    def test_more_cases_than_needed(self):
        evidence = SHOWN
        for name in ("ground", "edge", "link", "ground", "link"):
            evidence = [("case", name, evidence)]
            self.assert_is(True, evidence)
        self.assert_is(True, [("case", "text", [SHOWN[0], SHOWN[0]])])
        self.assert_is(True, [("case", "text", [("case", "text", [("ring", LIGHT), ("ring", DARK)]), ("ring", DARK)])])
        self.assert_is(False, [("case", "text", [("case", "text", [("ring", DARK), ("ring", LIGHT)]), ("ring", DARK)])])
        self.assert_is(True, [("case", "text", [("case", "text", [("ring", LIGHT), ("ring", LIGHT)]), ("ring", DARK)])])
        self.assert_is(False, [("case", "text", [("ring", DARK), ("ring", LIGHT)])])
        self.assert_is(False, [("case", "text", [("ring", LIGHT)])])
        self.assert_is(False, [("case", "text", [("ring", LIGHT), ("ring", DARK), ("ring", DARK)])])
        self.assert_is(False, [("case", "ground", [("ring", LIGHT), ("ring", DARK)])])
        self.assert_is(False, [("ring", LIGHT)])

    def test_facts_are_known_below_their_case_only(self):
        """What is known in one tree is not known beside it."""
        book = Book([("a", ("free", None, None, []), ("number", 0)), ("s", ("sealed", None, None), ("if", "a", 0, 1, 2)),
                     ("t", ("free", None, 5, []), ("number", 0))])
        claim = Claim([[(0, "t", -6), ("s", 0, 0)]])
        ring = ("ring", [(0, "t", -6), ("t", 0, 5)])
        self.assert_is(True, [("case", "t", [ring])], claim, book)
        self.assert_is(True, [("case", "s", [("case", "t", [ring])] * 2)], claim, book)
        for trees in ([ring, ("case", "t", [ring])], [("case", "t", [ring]), ring], [ring, ring]):
            self.assert_is(False, [("case", "s", trees)], claim, book)
        both = ("ring", [("s", 0, 0), (0, "s", -1)]), ("ring", [("s", 0, 0), (0, "s", -2)])
        self.assert_is(True, [("case", "s", list(both))], claim, book)
        self.assert_is(False, [("case", "s", [both[1], both[1]])], claim, book)
        self.assert_is(False, [("case", "s", [both[0], both[0]])], claim, book)

    def test_facts_of_another_conflict_are_not_known(self):
        claim = Claim([[(0, 0, -1)], [(0, 0, 0)]])
        self.assert_is(False, [("ring", [(0, 0, -1)]), ("ring", [(0, 0, -1)])], claim)
        self.assert_is(False, [("ring", [(0, 0, -1)])] * 2, Claim([[(0, 0, 0)], [(0, 0, -1)]]))

    def test_facts_that_are_not_known_in_another_book(self):
        self.assert_is(True, SHOWN)
        settings = theme().settings()
        for at, setting in [(0, ("ground", ("free", 0, 100, []), ("number", 0))), (2, ("link", ("sealed", 1, 2), ("number", 5)))]:
            self.assert_is(True, SHOWN, CLAIM, Book(settings[:at] + [setting] + settings[at + 1:]))
        for text in [("if", "ground", 51, 10, 90), ("if", "ground", 50, 11, 90), ("if", "ground", 50, 90, 10),
                     ("max", ["ground", 50]), ("plus", "ground", 40), ("number", 10)]:
            other = ("text", ("sealed", None, None), text)
            self.assert_is(False, SHOWN, CLAIM, Book(settings[:1] + [other] + settings[2:]))
        self.assert_is(False, SHOWN, CLAIM, Book(settings[:1] + [("text", ("sealed", 0, None), settings[1][2])] + settings[2:]))

    def test_booleans_are_no_numbers(self):
        book = Book([("a", ("free", 1, None, []), ("number", 1))])
        claim = Claim([[("a", 0, 0)], [("a", 0, -1), (0, 0, 1)]])
        known = [[("a", 0, 0), (0, "a", -1)], [("a", 0, -1), (0, 0, 1), (0, "a", -1)]]
        good = [("case", "a", [("ring", ring)]) for ring in known]
        self.assert_is(True, good, claim, book)
        for at, wrong in [(0, [("a", 0, False), (0, "a", -1)]), (0, [("a", False, 0), (0, "a", -1)]),
                          (0, [("a", 0, 0), (False, "a", -1)]), (1, [("a", 0, -1), (0, 0, True), (0, "a", -1)]),
                          (1, [("a", 0, -1), (0, False, 1), (0, "a", -1)]), (1, [("a", 0, -1), (False, 0, 1), (0, "a", -1)])]:
            evidence = list(good)
            evidence[at] = ("case", "a", [("ring", wrong)])
            self.assert_is(False, evidence, claim, book)

    def test_long_rings_and_many_trees(self):
        self.assert_is(True, [("case", "text", [("ring", LIGHT * 33), ("ring", DARK * 33)])])
        tree = SHOWN[0]
        for _ in range(10):
            tree = ("case", "text", [tree, tree])
        self.assert_is(True, [tree])
        self.assert_is(False, [("case", "text", [tree, ("ring", LIGHT)])])

    def test_deeply_nested(self):
        tree = SHOWN[0]
        for at in range(200):
            tree = ("case", ["ground", "link", "edge"][at % 3], [tree])
        self.assert_is(True, [tree])
        for _ in range(5000):
            tree = ("case", "ground", [tree])
        self.assertIs(check_evidence(theme(), CLAIM, [tree]), True)


class Changed(unittest.TestCase):
    def test_every_change_in_every_place(self):
        book = theme()
        settings = book.settings()
        seen = {True: 0, False: 0}
        for evidence in changed_objects(SHOWN):
            before = repr(evidence)
            expected = model_is_evidence(settings, CLAIM.conflicts, evidence)
            self.assertIs(check_evidence(book, CLAIM, evidence), expected, evidence)
            self.assertEqual(repr(evidence), before)
            seen[expected] += 1
        self.assertGreater(seen[False], 1000)

    def test_no_single_change_is_right_unless_it_changes_nothing_that_counts(self):
        """All changes of the example are wrong, as each thing in it counts."""
        for evidence in changed_objects(SHOWN):
            if repr(evidence) != repr(SHOWN):
                self.assertIs(check_evidence(theme(), CLAIM, evidence), False, evidence)

    def test_changes_of_what_verdict_returns(self):
        maker = Maker(60)
        seen = {True: 0, False: 0}
        for _ in range(400):
            settings = maker.settings()
            claim = maker.claim([setting[0] for setting in settings])
            word, shown = verdict(Book(settings), claim)
            if word == "sure" and 0 < len(repr(shown)) < 2000:
                others = list(changed_objects(shown))
                for evidence in maker.dice.sample(others, min(30, len(others))):
                    expected = model_is_evidence(settings, claim.conflicts, evidence)
                    self.assertIs(check_evidence(Book(settings), claim, evidence), expected, evidence)
                    seen[expected] += 1
        self.assertGreater(seen[False], 1000)
        self.assertGreater(seen[True], 0)

    def test_evidence_with_more_in_it(self):
        """Evidence into which cases were put, with rings that go around several times."""
        maker = Maker(61)
        for _ in range(150):
            settings = maker.settings()
            claim = maker.claim([setting[0] for setting in settings])
            word, shown = verdict(Book(settings), claim)
            if word == "sure":
                evidence = [self.widened(maker, settings, tree, 3) for tree in shown]
                self.assertTrue(model_is_evidence(settings, claim.conflicts, evidence))
                self.assertIs(check_evidence(Book(settings), claim, evidence), True)

    def widened(self, maker, settings, tree, left):
        if settings and left and maker.dice.random() < 0.5:
            name = maker.dice.choice(settings)[0]
            trees = [self.widened(maker, settings, tree, left - 1) for _ in model_alternatives(settings, name)]
            return ("case", name, trees)
        if tree[0] == "case":
            return ("case", tree[1], [self.widened(maker, settings, part, left) for part in tree[2]])
        at = maker.dice.randint(0, len(tree[1]))
        return ("ring", (tree[1][at:] + tree[1][:at]) * maker.dice.randint(1, 3))

    def test_evidence_of_another_claim(self):
        maker = Maker(62)
        for _ in range(200):
            settings = maker.settings()
            names = [setting[0] for setting in settings]
            claim, other = maker.claim(names), maker.claim(names)
            word, shown = verdict(Book(settings), claim)
            if word == "sure":
                expected = model_is_evidence(settings, other.conflicts, shown)
                self.assertIs(check_evidence(Book(settings), other, shown), expected)


class AnyObject(unittest.TestCase):
    def test_any_object_in_every_place(self):
        claims = [Claim([]), CLAIM, Claim([[(0, 0, -1)]]), Claim([[(0, 0, 0)], [(0, 0, 0)]])]
        ring = ("ring", [(0, 0, -1)])
        for claim, odd in itertools.product(claims, odd_objects()):
            for evidence in [odd, [odd], [odd, odd], (odd,), [(odd, odd)], [(odd, odd, odd)], [("ring", odd)], [("ring", [odd])],
                             [("case", odd, [])], [("case", odd, [ring])], [("case", "ground", odd)], [("case", "ground", [odd])],
                             [("case", "text", [ring, odd])], [(odd, [(0, 0, -1)])], [("ring", [(0, 0, odd)])],
                             [("ring", [(odd, 0, -1)])], [("ring", [(0, odd, -1)])], [("ring", [(0, 0, -1), odd])],
                             [ring + (odd,)], [("case", "ground", [ring], odd)], [{0: odd}], {0: odd}]:
                before = repr(evidence)
                expected = model_is_evidence(theme().settings(), claim.conflicts, evidence)
                self.assertIs(check_evidence(theme(), claim, evidence), expected, evidence)
                self.assertEqual(repr(evidence), before)

    def test_facts_of_every_form(self):
        """Only facts are facts, also where something equal to them is known."""
        for fact in [(0, 0, -1), (False, 0, -1), (0, False, -1), (0, 0, True), [0, 0, -1], (0, 0), (0, 0, -1, 0), ("", 0, -1)]:
            expected = is_plain_fact(fact) and fact == (0, 0, -1)
            self.assertIs(check_evidence(theme(), Claim([[(0, 0, -1)]]), [("ring", [fact])]), expected, fact)

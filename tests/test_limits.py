"""Point 3: answers at the limits come within seconds, and are right."""

from laterthemes.books import Book
from laterthemes.claims import Claim
from laterthemes.duals import breaks, seals
from laterthemes.verdicts import check_break, check_evidence, verdict
from tests.limits import BIG, FREE, SEALED, SIX, LimitMaker, TimedTest, free_settings
from tests.reckoning import model_breaks, model_is_evidence, model_sealed, model_size, trees_in


class Limits(TimedTest):
    def verdict_of(self, settings, claim):
        book = Book(settings)
        word, shown = self.timed(verdict, book, claim)
        if word == "sure":
            self.assertTrue(model_is_evidence(settings, claim.conflicts, shown))
            self.assertTrue(self.timed(check_evidence, book, claim, shown))
        else:
            self.assertTrue(model_breaks(settings, claim.conflicts, shown))
            self.assertTrue(self.timed(check_break, book, claim, shown))
        return word, shown

    def test_a_size_of_600(self):
        maker = LimitMaker(80)
        seen = {"sure": 0, "breaks": 0}
        for _ in range(60):
            settings = maker.sized_settings(300, 600)
            seen[self.verdict_of(settings, maker.full_claim(settings))[0]] += 1
        self.assertGreater(min(seen.values()), 5)

    def test_a_size_of_60(self):
        maker = LimitMaker(81)
        counts = []
        for _ in range(60):
            settings = maker.sized_settings(30, 60)
            claim = maker.full_claim(settings)
            loose = [setting[0] for setting in settings if setting[1][0] != "sealed"][:maker.dice.randint(0, 2)]
            found = self.timed(breaks, Book(settings), claim, loose=loose)
            saved = self.timed(seals, Book(settings), claim, loose=loose)
            for _, layer in found:
                self.assertTrue(model_breaks(settings, claim.conflicts, layer))
            for names, evidence in saved:
                self.assertTrue(model_is_evidence(model_sealed(settings, names), claim.conflicts, evidence))
            counts.append(len(found))
        self.assertGreater(max(counts), 3)

    def test_cases_behind_cases(self):
        """Cases at several steps, each behind those before; the size is somewhat beyond the limit."""
        settings = free_settings("a")
        for k, (one, other) in enumerate([("b", "c"), ("d", "e"), ("f", "g")]):
            before = "aceg"[k]
            settings.append((one, SEALED, ("if", before, BIG // (k + 2), before, BIG)))
            settings.append((other, SEALED, ("max", [before, one, -k, k])))
        settings.append(("h", ("sealed", -9, BIG), ("min", ["g", "f", "e"])))
        self.assertEqual(model_size(settings), 4608)
        ends = ["h", "g", "f", "e"]
        claim = Claim([[(end, other, -1 - k) for k, other in enumerate(ends)] for end in ends])
        self.verdict_of(settings, claim)
        claim = Claim([[("g", "a", -1), (0, "b", 3), (0, 0, 0), ("g", 0, BIG)], [("g", "e", -1)], [("e", "c", -1)],
                       [(0, "h", -BIG - 1)], [("h", 0, -10)], [("f", "f", -1)]])
        self.assertEqual(self.verdict_of(settings, claim)[0], "sure")

    def test_the_same_maximum_twice(self):
        settings = free_settings(SIX)
        settings += [("x", SEALED, ("max", SIX)), ("y", SEALED, ("max", (SIX[::-1] * 17)[:100]))]
        self.assertEqual(model_size(settings), 600)
        word, shown = self.verdict_of(settings, Claim.equal("x", "y") & Claim.at_least("x", "c", 0) & Claim.within("y", "x", 3))
        self.assertEqual(word, "sure")
        self.assertLess(sum(map(trees_in, shown)), 5000)
        self.assertEqual(self.verdict_of(settings, Claim.equal("x", "a"))[0], "breaks")

    def test_eight_open_settings(self):
        """Six sets of four settings break the claim; or each of seven settings does."""
        names = list("abcdefgh")
        settings = [(name, ("free", 0, 1, []), ("number", 0)) for name in names]
        claim = Claim([[(0, one, -1), (0, other, -1), (0, third, -1), (0, last, -1)]
                       for one, other, third, last in ("abcd", "abef", "cdgh", "efgh", "acfh", "bdeg")])
        found, saved = self.timed(breaks, Book(settings), claim), self.timed(seals, Book(settings), claim)
        self.assertEqual([names for names, _ in found], sorted(map(tuple, ["abcd", "abef", "cdgh", "efgh", "acfh", "bdeg"])))
        self.assertTrue(all(set(one) & set(other) for one, _ in found for other, _ in saved))
        settings = settings[:7] + [("z", SEALED, ("max", names[:7]))]
        claim = Claim.at_most("z", 0, 0)
        self.assertEqual([names for names, _ in self.timed(breaks, Book(settings), claim)], [(name,) for name in names[:7]])
        self.assertEqual([names for names, _ in self.timed(seals, Book(settings), claim)], [tuple(names[:7])])

    def test_open_settings_with_many_operands(self):
        settings = free_settings("abc") + [("m", ("extend", ["a"]), ("max", ["a", "b", "c", 1, 2])),
                                           ("n", ("extend", ["m"]), ("min", ["m", "a", "b", -1])),
                                           ("o", ("choice", ["m", "n", "c"]), ("plus", "m", 0))]
        self.assertEqual(model_size(settings), 60)
        claim = Claim.at_least("m", "n", 0) & Claim.at_most("o", "m", 0) & Claim.at_least("o", "n", -3)
        self.timed(breaks, Book(settings), claim)
        self.timed(seals, Book(settings), claim)
        wide = [("m", ("extend", ["a"]), ("max", (["a", "b", "c", 1, 2] * 12)[:60]))]
        settings = free_settings("abc") + wide + [("t", FREE, ("plus", "m", 2))]
        self.assertEqual(model_size(settings), 60)
        claim = Claim.at_least("t", "m", 2) & Claim.at_most("m", "t", 9)
        found, saved = self.timed(breaks, Book(settings), claim), self.timed(seals, Book(settings), claim)
        self.assertEqual([names for names, _ in found], [("t",)])
        self.assertEqual([names for names, _ in saved], [("t",)])

    def test_pair_books(self):
        """Nine settings, two of which are one setting in two definitions."""
        permission = ("sealed", 0, 50)
        one = [("x", permission, ("max", ["a", "b", "c", "d", 7])), ("z", permission, ("max", [7, 6, "d", "c", "b", "a"]))]
        settings = free_settings("abcde") + [one[0], ("y", SEALED, ("if", "a", "b", "x", "c")), ("w", SEALED, ("plus", "y", 1)), one[1]]
        self.assertEqual(model_size(settings), 15 * 18 * 2)
        claim = Claim.equal("x", "z")
        self.assertEqual(self.verdict_of(settings, claim)[0], "sure")
        self.assertEqual([names for names, _ in self.timed(seals, Book(settings), claim)], [()])
        other = settings[:-1] + [("z", permission, ("max", [7, 6, "d", "c", "b"]))]
        self.assertEqual(self.verdict_of(other, claim)[0], "breaks")
        self.assertEqual([names for names, _ in self.timed(breaks, Book(other), claim)], [("a",)])
        self.assertEqual([names for names, _ in self.timed(seals, Book(other), claim)], [("a",)])
        wide = [(name, SEALED, ("max", names)) for name, names in [("x", ["a", "b", "c"] * 20), ("z", ["c", "a", "b"] * 20)]]
        settings = free_settings("abc") + wide
        self.assertEqual(model_size(settings), 3600)
        self.assertEqual(self.verdict_of(settings, claim)[0], "sure")

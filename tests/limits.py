"""What the tests of point 3 share: books at the limits, and calls that are timed."""

import time
import unittest

from laterthemes.claims import Claim
from tests.reckoning import model_size
from tests.support import Maker

SECONDS = 5
FREE = ("free", None, None, [])
SEALED = ("sealed", None, None)
BIG = 10 ** 40 - 1
SIX = ["a", "b", "c", "d", "e", "f"]


class LimitMaker(Maker):
    def operands(self, names):
        return [self.operand(names) for _ in range(self.dice.randint(2, 6))]

    def sized_settings(self, low, high):
        """Eight settings whose size is within these limits."""
        while True:
            names = "abcdefgh"
            settings = [self.setting(name, list(names[:at])) for at, name in enumerate(names)]
            if low <= model_size(settings) <= high:
                return settings

    def full_claim(self, settings):
        names = [setting[0] for setting in settings]
        return Claim([[(self.end(names), self.end(names), self.number()) for _ in range(4)] for _ in range(6)])


def free_settings(names):
    return [(name, FREE, ("number", 0)) for name in names]


class TimedTest(unittest.TestCase):
    def timed(self, call, *arguments, **named):
        start = time.process_time()
        result = call(*arguments, **named)
        self.assertLess(time.process_time() - start, SECONDS)
        return result

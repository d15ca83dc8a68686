"""[9]: signals."""

import unittest

from helpers import GOOGOL, INTEGERS, NOTHINGS, Case
from unkeptlines.agents import Agent
from unkeptlines.errors import NoPart
from unkeptlines.signals import Signal
from unkeptlines.variables import Variable


class Signals(Case):
    def test_tokens(self):
        self.assertEqual((Signal("full").name, Signal("full").tokens), ("full", 0))
        for tokens in (0, 1, 2, 3):
            self.assertEqual(Signal("full", tokens).tokens, tokens)
            self.assertEqual(Signal(name="full", tokens=tokens).tokens, tokens)
        for tokens in [-1, 4, GOOGOL, -GOOGOL, "x", (0, 0)] + NOTHINGS:
            self.raises(NoPart, {"reason": "tokens", "place": None}, Signal, "full", tokens)

    def test_names(self):
        for name in ("a", "abcdefgh"):
            self.assertEqual(Signal(name).name, name)
        for name in NOTHINGS + INTEGERS:
            self.raises(NoPart, {"reason": "name", "place": None}, Signal, name)
            self.raises(NoPart, {"reason": "name", "place": None}, Signal, name, 4)
            self.raises(NoPart, {"reason": "name", "place": None}, Signal, name, name)

    def test_equal(self):
        one = Signal("full", 1)
        self.assertTrue(one == Signal("full", 1))
        self.assertFalse(one != Signal("full", 1))
        self.assertTrue(Signal("full") == Signal("full", 0))
        for other in (Signal("full"), Signal("fully", 1), Signal("full", 2), Variable("full", 1, 0),
                      Agent("full", ("wait", "s")), "full", 1, ("full", 1), None, ["full", 1]):
            self.assertIs(one == other, False)
            self.assertIs(other == one, False)
            self.assertIs(one != other, True)


if __name__ == "__main__":
    unittest.main()

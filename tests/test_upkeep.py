"""The first part of [26]: the nearest steps that concern a line."""

import unittest

from drawn_nets import net_at_random, net_in_pairs, net_in_turn
from helpers import ANY, FILL, Case
from plain_judgement import UPKEEP, before, behind, fetching
from plain_machine import lines_near
from unkeptlines.agents import Agent, Back, Through
from unkeptlines.errors import NoStep
from unkeptlines.nets import Net
from unkeptlines.upkeep import first_access, last_drop, next_upkeep
from unkeptlines.variables import Variable

X, Y = Variable("x", 4, 0), Variable("y", 4, 4)


def on(word, name="x", shift=0):
    return (word, name, shift, 0, 0)


class Nearest(Case):
    def test_by_seed(self):
        for maker in (net_in_turn, net_at_random, net_in_pairs):
            for seed in range(25):
                net = maker(seed)
                for place in net.places():
                    for n in (-1000, -3, -1, 0, 1, 2, 1000):
                        for line in lines_near(net):
                            one = (place, n)
                            self.assertEqual(next_upkeep(net, place, n, line), behind(net, one, UPKEEP, line))
                            self.assertEqual(last_drop(net, place, n, line), before(net, one, ("drop", "flush"), line))
                            words = fetching(net, place[0])
                            self.assertEqual(first_access(net, place, n, line), behind(net, one, words, line))

    def test_words(self):
        steps = [on(word) for word in ("read", "write", "get", "put", "clean", "drop", "flush")]
        for kind in (Through, Back):
            net = Net(X, kind("a", *steps, on("get")), line=4)
            self.assertEqual(next_upkeep(net, (0, 0), 5, 0), ((0, 4), 5))
            self.assertEqual(next_upkeep(net, (0, 4), 5, 0), ((0, 5), 5))
            self.assertEqual(next_upkeep(net, (0, 6), 5, 0), ((0, 4), 6))
            self.assertEqual(last_drop(net, (0, 4), 5, 0), ((0, 6), 4))
            self.assertEqual(last_drop(net, (0, 6), 5, 0), ((0, 5), 5))
            self.assertEqual(last_drop(net, (0, 7), 5, 0), ((0, 6), 5))
            self.assertEqual(first_access(net, (0, 1), 5, 0), ((0, 0), 6))
        back = net
        through = Net(X, Through("a", *steps), line=4)
        self.assertEqual(first_access(back, (0, 0), 5, 0), ((0, 1), 5))
        self.assertEqual(first_access(through, (0, 0), 5, 0), ((0, 0), 6))

    def test_the_instance_itself(self):
        """It is neither behind nor ahead of itself: so the nearest one is a whole ring away."""
        for ring in (1, 2, 3, 4):
            for slots in (1, ring):
                net = Net(Variable("x", 4, *range(0, 4 * slots, 4)), Back("a", on("flush"), on("read", shift=1)),
                          line=4, ring=ring)
                far = ring if slots > 1 else 1
                for n in (-5, 0, 8):
                    self.assertEqual(next_upkeep(net, (0, 0), n, (n % slots)), ((0, 0), n + far))
                    self.assertEqual(last_drop(net, (0, 0), n, (n % slots)), ((0, 0), n - far))
                    self.assertEqual(first_access(net, (0, 1), n, ((n + 1) % slots)), ((0, 1), n + far))

    def test_nowhere(self):
        net = Net(X, Y, Back("a", on("write"), on("flush", "y")), Agent("b", on("read"), on("write", "y")),
                  Through("c", on("get"), on("put"), on("write"), on("read", "y")), line=4)
        for n in (-1, 0, 7):
            self.assertIsNone(next_upkeep(net, (0, 0), n, 0))
            self.assertIsNone(last_drop(net, (0, 1), n, 0))
            self.assertIsNone(first_access(net, (0, 0), n, 1))
            self.assertIsNone(next_upkeep(net, (0, 0), n, 2))
            for line in (0, 1):
                for s in (0, 1):
                    self.assertIsNone(first_access(net, (1, s), n, line))
                    self.assertIsNone(next_upkeep(net, (1, s), n, line))
                    self.assertIsNone(last_drop(net, (1, s), n, line))
            self.assertIsNone(first_access(net, (2, 0), n, 0))
            self.assertEqual(first_access(net, (2, 3), n, 1), ((2, 3), n + 1))

    def test_any_byte_of_the_line(self):
        net = Net(X, Y, Back("a", on("write"), on("clean", "y"), on("drop", "y")), line=8)
        self.assertEqual(next_upkeep(net, (0, 0), 0, 0), ((0, 1), 0))
        self.assertEqual(last_drop(net, (0, 0), 0, 0), ((0, 2), -1))
        self.assertEqual(first_access(net, (0, 2), -1, 0), ((0, 0), 0))
        wide = Net(Variable("z", 8, 3), Back("a", ("flush", "z", 0, 0, 7), ("get", "z", 0, 0, 0)), line=4)
        for line in (0, 1, 2):
            self.assertEqual(next_upkeep(wide, (0, 1), 3, line), ((0, 0), 4))
            self.assertEqual(last_drop(wide, (0, 1), 3, line), ((0, 0), 3))
        self.assertIsNone(next_upkeep(wide, (0, 1), 3, 3))

    def test_by_names(self):
        net = Net(X, Back("a", on("write"), on("flush")))
        self.assertEqual(next_upkeep(net=net, place=(0, 0), n=2, line=0), ((0, 1), 2))
        self.assertEqual(last_drop(net=net, place=(0, 0), n=2, line=0), ((0, 1), 1))
        self.assertEqual(first_access(net=net, place=(0, 0), n=2, line=0), ((0, 0), 3))

    def test_places(self):
        for call in (next_upkeep, last_drop, first_access):
            for bad in ANY:
                if bad != (0, 0):
                    self.raises(NoStep, {"place": bad}, call, FILL, bad, 0, 0)
            self.raises(NoStep, {"place": (1, 3)}, call, FILL, (1, 3), -1, 0)
            self.raises(NoStep, {"place": (0, 0)}, call, Net(), (0, 0), 0, 0)


if __name__ == "__main__":
    unittest.main()

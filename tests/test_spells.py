"""The second part of [26]: spells and endless ones."""

import copy
import unittest

from drawn_nets import net_at_random, net_in_pairs, net_in_turn
from helpers import ANY, FILL, Case
from plain_judgement import plain_endless, plain_spells
from plain_machine import lines_near
from unkeptlines.agents import Agent, Back, Through
from unkeptlines.errors import NoName
from unkeptlines.nets import Net
from unkeptlines.signals import Signal
from unkeptlines.spells import endless, spells
from unkeptlines.variables import Variable

X = Variable("x", 4, 0)


def on(word, first=0, last=0):
    return (word, "x", 0, first, last)


def back(*words, **more):
    return Net(X, Back("a", *[on(word) for word in words]), **more)


class Spells(Case):
    def test_by_seed(self):
        seen = 0
        for maker in (net_in_turn, net_at_random, net_in_pairs):
            for seed in range(60):
                net = maker(seed)
                for a, agent in enumerate(net.agents):
                    for line in lines_near(net):
                        for eager in (True, False):
                            told = list(spells(net, agent.name, line, eager=eager))
                            self.assertEqual(told, plain_spells(net, a, line, eager, 0, net.ring), (maker, seed, a))
                            seen += len(told)
                        self.assertIs(endless(net, agent.name, line), plain_endless(net, a, line))
        self.assertGreater(seen, 300)

    def test_one_spell(self):
        net = back("flush", "read", "write", "write", "flush")
        told = [(((0, 2), 0), ((0, 4), 0), ((0, 0), 0))]
        self.assertEqual(list(spells(net, "a", 0)), told)
        self.assertEqual(list(spells(net, "a", 0, eager=True)), told)
        self.assertEqual(list(spells(net=net, name="a", line=0, eager=False)),
                         [(((0, 2), 0), ((0, 4), 0), ((0, 1), 0))])
        self.assertEqual(list(spells(net, "a", 1)), [])

    def test_end_in_a_later_round(self):
        self.assertEqual(list(spells(back("drop", "write"), "a", 0)), [(((0, 1), 0), ((0, 0), 1), ((0, 0), 0))])
        self.assertEqual(list(spells(back("write", "drop", "read"), "a", 0)),
                         [(((0, 0), 0), ((0, 1), 0), ((0, 1), -1))])
        self.assertEqual(list(spells(back("write", "drop", "read"), "a", 0, eager=False)),
                         [(((0, 0), 0), ((0, 1), 0), ((0, 2), -1))])
        # The line of the upkeep comes once in a ring: the write of another slot is on the same line.
        net = Net(Variable("x", 1, 0, 8, 16), Variable("y", 1, 1), Back(
            "a", ("write", "y", 0, 0, 0), ("flush", "x", 1, 0, 0)), ring=3)
        self.assertEqual(list(spells(net, "a", 0)), [(((0, 0), 0), ((0, 1), 2), ((0, 1), -1))])

    def test_behind_a_clean(self):
        """A clean ends a spell, but keeps the copy."""
        net = back("flush", "get", "write", "clean", "write", "clean")
        self.assertEqual(list(spells(net, "a", 0)), [
            (((0, 2), 0), ((0, 3), 0), ((0, 0), 0)), (((0, 4), 0), ((0, 5), 0), ((0, 0), 0))])
        self.assertEqual(list(spells(net, "a", 0, eager=False)), [
            (((0, 2), 0), ((0, 3), 0), ((0, 2), 0)), (((0, 4), 0), ((0, 5), 0), ((0, 2), 0))])

    def test_no_source(self):
        for eager in (True, False):
            self.assertEqual(list(spells(back("read", "write", "clean"), "a", 0, eager=eager)),
                             [(((0, 1), 0), ((0, 2), 0), None)])

    def test_get_and_put_are_no_source(self):
        net = back("drop", "get", "put", "write", "flush")
        self.assertEqual(list(spells(net, "a", 0, eager=False)), [(((0, 3), 0), ((0, 4), 0), ((0, 3), 0))])
        self.assertEqual(list(spells(back("drop", "get", "put", "flush"), "a", 0)), [])
        # Without a step write there is nothing, with a put neither.
        self.assertIs(endless(back("put", "read"), "a", 0), False)

    def test_in_order(self):
        net = Net(Variable("x", 2, 0, 2, 8), Back(
            "a", ("write", "x", 0, 0, 0), ("clean", "x", 0, 0, 0), ("write", "x", 1, 0, 0), ("drop", "x", 1, 0, 0)),
                  line=4, ring=3)
        told = list(spells(net, "a", 0))
        firsts = [(first[1], first[0]) for first, _, _ in told]
        self.assertEqual(firsts, sorted(firsts))
        self.assertEqual([first for first, _, _ in told], [((0, 0), 0), ((0, 2), 0), ((0, 0), 1), ((0, 2), 2)])
        self.assertEqual(told[3], (((0, 2), 2), ((0, 3), 2), ((0, 3), 0)))

    def test_only_back(self):
        for kind in (Through, Back):
            net = Net(X, kind("a", on("write"), on("flush")), Agent("b", on("write")))
            self.assertEqual(len(list(spells(net, "a", 0))), 1 if kind is Back else 0)
            self.assertEqual(list(spells(net, "b", 0)), [])
            self.assertIs(endless(net, "a", 0), False)
            self.assertIs(endless(net, "b", 0), False)
            without = net.with_agents(kind("a", on("write")))
            self.assertIs(endless(without, "a", 0), kind is Back)
            self.assertEqual(list(spells(without, "a", 0)), [])

    def test_endless(self):
        self.assertIs(endless(net=back("write", "read"), name="a", line=0), True)
        self.assertIs(endless(back("read"), "a", 0), False)
        self.assertIs(endless(back("write"), "a", 1), False)
        for word in ("clean", "drop", "flush"):
            self.assertIs(endless(back("write", word), "a", 0), False)
        slots = Net(Variable("x", 1, 0, 8), Back("a", ("write", "x", 0, 0, 0), ("flush", "x", 1, 0, 0)), ring=2)
        self.assertIs(endless(slots, "a", 0), False)
        apart = Net(Variable("x", 1, 0, 8), Variable("y", 1, 1), Back(
            "a", ("write", "x", 0, 0, 0), ("flush", "y", 0, 0, 0)), ring=2)
        self.assertEqual([endless(apart, "a", line) for line in (0, 1, 2)], [False, True, False])

    def test_names(self):
        net = Net(X, Signal("s", 1), Back("a", on("write"), ("wait", "s"), ("post", "s")))
        for bad in ANY + ["s", "b", "aa"]:
            self.raises(NoName, {"name": bad}, endless, net, bad, 0)
            self.raises(NoName, {"name": bad}, lambda: list(spells(net, bad, 0)))
            self.raises(NoName, {"name": bad}, lambda: list(spells(net, name=bad, line=0, eager=False)))
        self.raises(NoName, {"name": "a"}, lambda: list(spells(Net(), "a", 0)))

    def test_two_walks(self):
        net = back("flush", "write", "clean", "write", "drop", "write")
        told = list(spells(net, "a", 0))
        self.assertEqual(len(told), 3)
        one, other = iter(spells(net, "a", 0)), iter(spells(net, "a", 0))
        self.assertEqual([next(one), next(other), next(one), next(one), next(other)],
                         [told[0], told[0], told[1], told[2], told[1]])
        self.assertEqual((list(one), list(other)), ([], told[2:]))

    def test_changes_nothing(self):
        before = copy.deepcopy(FILL)
        list(spells(FILL, "cpu", 0))
        endless(FILL, "cpu", 0)
        self.assertEqual(FILL, before)


if __name__ == "__main__":
    unittest.main()

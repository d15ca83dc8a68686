"""[4] and [31]: judge."""

import collections
import copy
import unittest

from all_states import TooLarge, can_be_wrong
from drawn_nets import MANNERS, large_net, net_at_random, net_in_pairs, net_in_turn
from helpers import FILL, Case
from nets_by_seed import all_lags
from plain_machine import drawn_rows
from unkeptlines.agents import Agent, Back
from unkeptlines.checker import holds
from unkeptlines.clashes import clash
from unkeptlines.errors import Clashes, Stands
from unkeptlines.findings import Clash, Right, Still, Wrong
from unkeptlines.judge import judge
from unkeptlines.judging import is_right
from unkeptlines.nets import Net
from unkeptlines.runs import play
from unkeptlines.signals import Signal
from unkeptlines.variables import Variable
from unkeptlines.ways import still

MAKERS = (net_in_turn, net_at_random, net_in_pairs)
KINDS = {"still": Still, "clash": Clash, "wrong": Wrong, "right": Right}
X = Variable("x", 1, 0)
READ, WRITE = ("read", "x", 0, 0, 0), ("write", "x", 0, 0, 0)


def verdict(net, manner):
    """The word that judge should tell, by what earlier stages tell."""
    try:
        return "right" if is_right(net, **manner) else "wrong"
    except Stands:
        return "still"
    except Clashes:
        return "clash"


class Judge(Case):
    def check(self, net, **manner):
        """Judges a net in one manner and looks at the finding; its word."""
        found = judge(net, **manner)
        eager, whole = manner.get("eager", True), manner.get("whole", True)
        self.assertIs(type(found), KINDS[found.word])
        self.assertEqual(found.word, verdict(net, manner))
        self.assertIs(holds(net, found), True)
        if found.word in ("wrong", "right"):
            self.assertIs(found.eager, eager)
            self.assertIs(found.whole, whole)
        if found.word == "right":
            for k in range(len(found.ways)):
                fewer = found.ways[:k] + found.ways[k + 1:]
                self.assertIs(holds(net, Right(found.steps, fewer, eager, whole)), False)
        return found.word

    def test_by_seed(self):
        seen = collections.Counter()
        for maker in MAKERS:
            for seed in range(120):
                net = maker(seed)
                for manner in MANNERS:
                    seen[self.check(net, **manner)] += 1
        for word in KINDS:
            self.assertGreater(seen[word], 60, word)

    def test_large_nets(self):
        """Four agents of 24 steps, some of them many rounds apart."""
        seen = collections.Counter()
        for seed in range(60):
            seen[self.check(large_net(seed), **MANNERS[seed % 4])] += 1
        self.assertGreater(min(seen["clash"], seen["wrong"]), 10)
        self.assertGreater(seen["right"], 2)

    def test_late_runs(self):
        """What spoils comes from an agent that may be many rounds ahead or behind."""
        def on(word, name="x"):
            return (word, name, 0, 0, 0)

        far = [on("get", "z")] * 20
        for tokens in ((0, 3, 3), (3, 3, 3), (3, 0, 0)):
            net = Net(X, Variable("y", 1, 1), Variable("z", 1, 9), Signal("full"), Signal("empty", 1),
                      Signal("t", tokens[0]), Signal("u", tokens[1]), Signal("v", tokens[2]),
                      Agent("a", ("wait", "empty"), *[on("read", "z")] * 21, on("write"), ("post", "full")),
                      Back("b", ("wait", "full"), on("flush"), on("read"), *far, ("post", "empty")),
                      Back("e", ("post", "t"), on("write", "y"), *far, on("clean", "y"), ("wait", "v")),
                      Back("o", ("wait", "t"), *far, ("post", "u"), ("wait", "u"), ("post", "v")), ring=4)
            for manner in MANNERS:
                self.assertEqual(self.check(net, **manner), "wrong" if manner["whole"] else "right")

    def test_fill(self):
        found = judge(net=FILL, eager=True, whole=True)
        self.assertIs(type(found), Wrong)
        self.assertEqual((found, judge(FILL)), (judge(FILL, whole=True, eager=True), found))
        self.assertEqual(len(play(FILL, found.rows).wrong) > 0, True)

    def test_fill_with_upkeep(self):
        wait, post = ("wait", "full"), ("post", "empty")
        rows = {word: (word, "buf", 0, 0, 1) for word in ("read", "get", "drop", "clean")}
        for steps, words in (
                ((rows["drop"], wait, rows["read"], post), "calm"), ((wait, rows["drop"], rows["read"], post), "all"),
                ((wait, rows["clean"], rows["read"], post), "none"), ((wait, rows["get"], post), "all"),
                ((rows["clean"], wait, rows["read"], post), "none")):
            net = FILL.with_agents(FILL.agents[0], Back("cpu", *steps))
            for manner in MANNERS:
                right = words == "all" or (words == "calm" and not manner["eager"])
                self.assertEqual(self.check(net, **manner), "right" if right else "wrong", steps)
                found = judge(net, **manner)
                if right:
                    full, empty = steps.index(wait), len(steps) - 1
                    self.assertEqual(len(found.ways), 2)
                    ends = {(way[0], way[-1]) for way in found.ways}
                    self.assertEqual(ends, {((0, 2), (1, full)), ((1, empty), (0, 0))})

    def test_the_first_that_applies(self):
        everything = Net(X, Signal("s"), Agent("a", ("wait", "s"), ("post", "s"), WRITE), Agent("b", READ),
                         Back("c", ("write", "x", 0, 0, 0), ("drop", "x", 0, 0, 0), ("read", "x", 0, 0, 0)))
        wrong = Net(X, everything.agents[2])
        clashing = wrong + everything.agents[1]
        for manner in MANNERS:
            self.assertEqual(self.check(everything, **manner), "still")
            self.assertEqual(self.check(clashing, **manner), "clash")
            self.assertEqual(self.check(wrong, **manner), "wrong")

    def test_without_agents(self):
        for net in (Net(), Net(X), Net(X, line=1, ring=4)):
            for manner in MANNERS:
                found = judge(net, **manner)
                self.assertEqual(found, Right((), (), manner["eager"], manner["whole"]))
                self.assertIs(holds(net, found), True)

    def test_no_ways_are_needed(self):
        net = Net(X, Signal("s", 1), Signal("t"), Back("a", ("wait", "s"), WRITE, READ, ("post", "t")),
                  Agent("b", ("wait", "t"), ("post", "s")))
        for manner in MANNERS:
            self.assertEqual(judge(net, **manner).ways, ())

    def test_manners_by_default(self):
        net = FILL.with_agents(FILL.agents[0], Back("cpu", ("drop", "buf", 0, 0, 1), *FILL.agents[1].steps))
        self.assertEqual([judge(net).word, judge(net, eager=False).word], ["wrong", "right"])
        shared = Net(X, Variable("y", 1, 1), Back("a", WRITE, ("flush", "x", 0, 0, 0), READ), Back(
            "e", ("write", "y", 0, 0, 0)))
        self.assertEqual([judge(shared).word, judge(shared, whole=False).word], ["wrong", "right"])

    def test_a_still_is_a_ring(self):
        for seed in range(40):
            net = net_at_random(seed)
            found = judge(net)
            if found.word == "still":
                lags = all_lags(net)
                self.assertEqual(found.ring[0], found.ring[-1])
                self.assertTrue(all(lags[one, other] == 0 for one in found.ring for other in found.ring))

    def test_changes_nothing(self):
        for seed in range(10):
            net = net_in_pairs(seed)
            before = copy.deepcopy(net)
            found = judge(net)
            kept = copy.deepcopy(vars(found))
            holds(net, found)
            judge(net, eager=False)
            self.assertEqual((net, vars(found)), (before, kept))


class Exactly(Case):
    def test_by_all_states(self):
        """A net is judged right exactly if no state can be reached in which a read is wrong."""
        seen = []
        for maker in MAKERS:
            for seed in range(500, 515):
                net = maker(seed)
                if still(net) is None and clash(net) is None:
                    for manner in MANNERS:
                        try:
                            wrong = can_be_wrong(net, most=4000, **manner)
                        except TooLarge:
                            continue
                        self.assertIs(bool(judge(net, **manner)), not wrong, (seed, manner))
                        seen.append(wrong)
        self.assertGreater(min(seen.count(True), seen.count(False)), 10)

    def test_right_nets_have_no_wrong_read(self):
        seen = 0
        for maker in MAKERS:
            for seed in range(30):
                net, manner = maker(seed), MANNERS[seed % 4]
                if judge(net, **manner):
                    rows, _ = drawn_rows(net, seed, 120, **manner)
                    self.assertEqual(play(net, rows, **manner).wrong, ())
                    seen += 1
        self.assertGreater(seen, 25)


if __name__ == "__main__":
    unittest.main()

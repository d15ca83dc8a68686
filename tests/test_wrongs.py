"""[30]: runs with a wrong read."""

import collections
import copy
import unittest

from drawn_nets import MANNERS, net_at_random, net_in_pairs, net_in_turn
from helpers import FILL, Case
from unkeptlines.agents import Agent, Back, Through
from unkeptlines.clashes import clash
from unkeptlines.errors import Clashes, Stands
from unkeptlines.faults import faults
from unkeptlines.nets import Net
from unkeptlines.orders import Known, Order
from unkeptlines.runs import play
from unkeptlines.signals import Signal
from unkeptlines.variables import Variable
from unkeptlines.ways import still
from unkeptlines.wrongs import wrong_run

MAKERS = (net_in_turn, net_at_random, net_in_pairs)
X, Y = Variable("x", 1, 0), Variable("y", 1, 1)


def on(word, name="x"):
    return (word, name, 0, 0, 0)


class WrongRuns(Case):
    def check(self, net, fault, eager, whole):
        rows = wrong_run(net, fault, eager=eager, whole=whole)
        self.assertIs(type(rows), tuple)
        self.assertTrue(0 < len(rows) <= 4000)
        name, line = net.agents[fault.place[0]].name, fault.address // net.line
        before = play(net, rows[:-1], eager=eager, whole=whole)
        s, n = before.next_of(name)
        self.assertEqual((rows[-1], s, n % net.ring), (("step", name), fault.place[1], fault.round))
        after = play(net, rows, eager=eager, whole=whole)
        self.assertIn((name, s, n, fault.address), after.wrong[len(before.wrong):])
        deeds = [row for row in rows if row[0] != "step"]
        self.assertEqual({row[2] for row in deeds} - {line}, set())
        self.assertLessEqual(max(collections.Counter(row[1] for row in deeds).values(), default=0), 2)
        return rows

    def check_all(self, net):
        """Checks the runs of all faults in all manners; the words of the faults."""
        words = []
        for manner in MANNERS:
            for fault in faults(net, Order(net), **manner):
                self.check(net, fault, **manner)
                words.append(fault.word)
        return words

    def test_fill(self):
        fault = list(faults(FILL, Order(FILL)))[0]
        rows = self.check(FILL, fault, True, True)
        self.assertEqual(sum(row[0] != "step" for row in rows), 1)
        self.assertEqual(wrong_run(net=FILL, fault=fault, eager=True, whole=True), rows)
        self.assertEqual(wrong_run(FILL, fault), rows)
        calm = list(faults(FILL, Order(FILL), eager=False))[1]
        rows = self.check(FILL, calm, False, True)
        self.assertEqual([row for row in rows if row[0] != "step"], [])
        self.assertEqual(self.check_all(FILL), ["unsent"] * 8)

    def test_by_seed(self):
        words = []
        for maker in MAKERS:
            for seed in range(160):
                net = maker(seed)
                if still(net) is None and clash(net) is None:
                    words += self.check_all(net)
        for word, least in (("unsent", 200), ("spoilt", 80), ("lost", 5)):
            self.assertGreater(words.count(word), least, word)
        self.assertNotIn("due", words)

    def test_lost(self):
        for steps in (("write", "drop", "read"), ("drop", "read", "write"), ("write", "drop", "write", "drop", "read")):
            net = Net(X, Back("a", *[on(word) for word in steps]))
            self.assertIn("lost", self.check_all(net))

    def test_unsent(self):
        for kind in (Through, Back):
            net = Net(X, kind("a", on("put"), on("read")))
            self.assertEqual(self.check_all(net), ["unsent"] * 4)
            net = Net(X, kind("a", on("flush"), on("put"), on("read")))
            self.assertEqual(self.check_all(net), ["unsent"] * 2)
        self.assertEqual(self.check_all(Net(X, Back("a", on("write"), on("get")))), ["unsent"] * 4)
        self.assertEqual(self.check_all(Net(X, Back("a", on("write"), on("get"), on("flush")))), ["unsent"] * 4)

    def handed(self, writes, reads, *others, line=4):
        return Net(X, Y, Signal("full"), Signal("empty", 1),
                   Back("a", ("wait", "empty"), *writes, ("post", "full")),
                   Back("b", ("wait", "full"), *reads, ("post", "empty")), *others, line=line)

    def test_spoilt(self):
        writes, reads = [on("write"), on("flush")], [on("flush"), on("read")]
        for others in ([on("write", "y")], [on("write", "y"), on("clean", "y")], [on("write", "y"), on("flush", "y")],
                       [on("read", "y"), on("flush", "y"), on("write", "y"), on("drop", "y")]):
            net = self.handed(writes, reads, Back("e", *others))
            self.assertEqual(self.check_all(net).count("spoilt"), 2)
        net = self.handed([on("put")], [on("write", "y"), on("flush"), on("get")])
        self.assertIn("spoilt", self.check_all(net))
        net = self.handed([on("write", "y"), on("put"), on("flush")], [on("get")])
        self.assertIn("spoilt", self.check_all(net))
        net = self.handed([on("write"), on("put"), on("flush")], [on("get")])
        self.assertEqual(self.check_all(net), ["spoilt"] * 4)

    def test_kept_together_and_spoilt(self):
        """The value never leaves the writer's cache, but for what the caches do by themselves."""
        net = Net(X, Y, Back("a", on("write"), on("read")), Back("e", on("write", "y"), on("flush", "y")))
        self.assertEqual(self.check_all(net), ["spoilt"] * 2)
        net = Net(X, Y, Back("a", on("write"), on("flush"), on("read")), Back("e", on("write", "y")),
                  Through("t", on("read", "y")), line=2)
        self.assertIsNotNone(clash(net))
        apart = Variable("z", 1, 2)
        net = Net(X, Y, apart, Back("a", on("write"), on("flush"), on("read")), Back("e", on("write", "y")),
                  Through("t", on("read", "z")), Back("o", on("read", "z")), line=4)
        self.assertEqual(self.check_all(net), ["spoilt"] * 2)

    def test_large_nets(self):
        """Four agents of 24 steps, four slots: the runs stay short enough."""
        slots = Variable("v", 8, 0, 8, 16, 24)
        steps = [("flush", "v", 0, 0, 7), ("write", "v", 0, 0, 7), ("read", "v", 1, 0, 7), ("read", "v", 3, 0, 3)] * 6
        signals = [Signal("sa"), Signal("sb"), Signal("sc"), Signal("sd", 1)]
        agents = [Back(name, ("wait", "s" + "dabc"[k]), *steps[:22], ("post", "s" + name))
                  for k, name in enumerate("abcd")]
        net = Net(slots, *signals, *agents, line=16, ring=4)
        for manner in MANNERS:
            found = list(faults(net, Order(net), **manner))
            for fault in found[:1] + found[-1:] + found[7::97]:
                self.check(net, fault, **manner)

    def test_far_apart(self):
        """Signals with many tokens: what spoils may be many rounds away."""
        free = [Back("e", ("post", "t"), on("write", "y"), *[on("get", "z")] * 20, on("clean", "y"), ("wait", "u")),
                Back("o", ("wait", "t"), *[on("get", "z")] * 22, ("post", "u"))]
        for tokens in ((3, 3), (0, 3), (3, 0), (1, 0)):
            net = Net(X, Y, Variable("z", 1, 2), Signal("full"), Signal("empty", 1), Signal("t", tokens[0]),
                      Signal("u", tokens[1]), Agent("a", ("wait", "empty"), on("write"), ("post", "full")),
                      Through("b", ("wait", "full"), on("flush"), on("read"), ("post", "empty")), *free, ring=4)
            self.assertIsNone(still(net))
            self.assertEqual(self.check_all(net), ["spoilt"] * 8)

    def test_errors_in_order(self):
        stands = Net(X, Signal("s"), Agent("a", ("wait", "s"), ("post", "s"), on("write")), Agent("b", on("read")))
        fault = next(iter(faults(stands, Known.of(stands))))
        for manner in MANNERS:
            with self.assertRaises(Stands):
                wrong_run(stands, fault, **manner)
        clashing = Net(X, Agent("a", on("write")), Agent("b", on("read")))
        fault = next(iter(faults(clashing, Order(clashing))))
        for manner in MANNERS:
            with self.assertRaises(Clashes) as caught:
                wrong_run(clashing, fault, **manner)
            self.assertEqual({caught.exception.one, caught.exception.other}, {(0, 0), (1, 0)})

    def test_changes_nothing(self):
        fault, net = list(faults(FILL, Order(FILL)))[0], copy.deepcopy(FILL)
        before = copy.deepcopy(vars(fault))
        wrong_run(FILL, fault)
        self.assertEqual((FILL, vars(fault)), (net, before))


if __name__ == "__main__":
    unittest.main()

"""[19]: due values."""

import copy
import unittest

from drawn_nets import net_at_random, net_in_pairs, net_in_turn
from helpers import ANY, FILL, Case
from unkeptlines.agents import Agent, Back, Through
from unkeptlines.clashes import clash
from unkeptlines.dues import due
from unkeptlines.errors import Clashes, NoStep, Stands
from unkeptlines.nets import Net
from unkeptlines.orders import Order
from unkeptlines.signals import Signal
from unkeptlines.variables import Variable
from unkeptlines.ways import still

X = Variable("x", 4, 0)
MAKERS = (net_in_turn, net_at_random, net_in_pairs)


def plain_due(net, order, place, n, rounds):
    """By looking at all writes in some rounds, up to the one that is behind all others."""
    row = []
    for address in net.touched(place, n):
        ahead = [(one, k) for one in net.accesses() for k in rounds
                 if net.step(one)[0] in ("write", "put") and address in net.touched(one, k)
                 and order.ahead(one, k, place, n)]
        last = [one for one in ahead if all(one == other or order.ahead(*other, *one) for other in ahead)]
        assert len(last) == (1 if ahead else 0)
        row.append(last[0] if ahead else None)
    return tuple(row)


class Dues(Case):
    def test_fill(self):
        self.assertEqual(due(FILL, (1, 1), 3), (((0, 1), 3), ((0, 1), 3)))
        self.assertEqual(due(net=FILL, place=(1, 1), n=0), (((0, 1), 0), ((0, 1), 0)))
        self.assertEqual(due(FILL, (1, 1), 1000), (((0, 1), 1000), ((0, 1), 1000)))

    def test_nothing_ahead(self):
        """The reader comes first: its round 0 has no write ahead of it."""
        net = Net(
            X, Signal("full", 1), Signal("empty"),
            Through("dev", ("wait", "empty"), ("put", "x", 0, 1, 2), ("post", "full")),
            Back("cpu", ("wait", "full"), ("get", "x", 0, 0, 3), ("post", "empty")))
        self.assertEqual(due(net, (1, 1), 0), (None, None, None, None))
        self.assertEqual(due(net, (1, 1), 1), (None, ((0, 1), 0), ((0, 1), 0), None))
        self.assertEqual(due(net, (1, 1), 1000), (None, ((0, 1), 999), ((0, 1), 999), None))

    def test_own_writes(self):
        steps = (("read", "x", 0, 0, 1), ("write", "x", 0, 0, 0), ("read", "x", 0, 0, 1), ("put", "x", 0, 1, 2),
                 ("write", "x", 0, 2, 2), ("get", "x", 0, 0, 3))
        net = Net(X, Back("a", *steps))
        self.assertEqual(due(net, (0, 0), 0), (None, None))
        self.assertEqual(due(net, (0, 0), 1), (((0, 1), 0), ((0, 3), 0)))
        self.assertEqual(due(net, (0, 2), 0), (((0, 1), 0), None))
        self.assertEqual(due(net, (0, 2), 1), (((0, 1), 1), ((0, 3), 0)))
        self.assertEqual(due(net, (0, 5), 7), (((0, 1), 7), ((0, 3), 7), ((0, 4), 7), None))

    def test_slots(self):
        """A ring of three slots: what is read was written two rounds ago."""
        net = Net(Variable("x", 2, 0, 2, 4), Agent("a", ("write", "x", 0, 0, 1), ("read", "x", 1, 0, 0)), ring=3)
        self.assertEqual(due(net, (0, 1), 0), (None,))
        self.assertEqual(due(net, (0, 1), 1), (None,))
        self.assertEqual(due(net, (0, 1), 2), (((0, 0), 0),))
        self.assertEqual(due(net, (0, 1), 1000), (((0, 0), 998),))

    def test_by_seed(self):
        seen = 0
        for maker in MAKERS:
            for seed in range(60):
                net = maker(seed)
                if still(net) is None and clash(net) is None:
                    order = Order(net)
                    for place in net.accesses():
                        if net.step(place)[0] in ("read", "get"):
                            for n in (0, 1, 2, 3, 20):
                                rounds = range(max(0, n - 18), n + 2)
                                told = due(net, place, n)
                                self.assertIs(type(told), tuple)
                                self.assertEqual(told, plain_due(net, order, place, n, rounds), (maker, seed, place, n))
                                seen += any(told)
        self.assertGreater(seen, 300)

    def test_no_read(self):
        net = Net(X, Signal("s", 1), Back(
            "a", ("wait", "s"), ("post", "s"), ("write", "x", 0, 0, 0), ("put", "x", 0, 0, 0), ("clean", "x", 0, 0, 0),
            ("drop", "x", 0, 0, 0), ("flush", "x", 0, 0, 0), ("read", "x", 0, 0, 0), ("get", "x", 0, 0, 0)))
        for s in range(7):
            self.raises(NoStep, {"place": (0, s)}, due, net, (0, s), 0)
        self.assertEqual(due(net, (0, 7), 0), (((0, 3), 0),))
        self.assertEqual(due(net, (0, 8), 0), (((0, 3), 0),))
        for bad in ANY:
            if bad != (0, 0):
                self.raises(NoStep, {"place": bad}, due, net, bad, 0)
        self.raises(NoStep, {"place": (0, 9)}, due, net, (0, 9), 0)
        self.raises(NoStep, {"place": (1, 0)}, due, net, (1, 0), 0)

    def test_errors_in_order(self):
        write, read = ("write", "x", 0, 0, 0), ("read", "x", 0, 0, 1)
        clashing = Net(X, Agent("a", write), Agent("b", read))
        with self.assertRaises(Clashes) as caught:
            due(clashing, (1, 0), 0)
        told = caught.exception
        self.assertIs(type(told), Clashes)
        self.assertEqual({told.one, told.other}, {(0, 0), (1, 0)})
        self.raises(NoStep, {"place": (0, 0)}, due, clashing, (0, 0), 0)
        both = Net(X, Signal("s"), Agent("a", write, ("wait", "s"), ("post", "s")), Agent("b", read))
        with self.assertRaises(Stands):
            due(both, (1, 0), 0)
        self.raises(NoStep, {"place": (0, 0)}, due, both, (0, 0), 0)
        self.raises(NoStep, {"place": "b"}, due, both, "b", 0)
        # The clash need not concern the read.
        beside = Net(X, Variable("y", 1, 9), Agent("a", write), Agent("b", read), Agent("c", ("read", "y", 0, 0, 0)))
        with self.assertRaises(Clashes) as caught:
            due(beside, (2, 0), 0)
        self.assertEqual({caught.exception.one, caught.exception.other}, {(0, 0), (1, 0)})

    def test_changes_nothing(self):
        before = copy.deepcopy(FILL)
        due(FILL, (1, 1), 3)
        self.assertEqual(FILL, before)


if __name__ == "__main__":
    unittest.main()

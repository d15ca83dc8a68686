"""[34]: third writes."""

import copy
import unittest

from drawn_nets import large_net, net_at_random, net_in_pairs, net_in_turn
from helpers import FILL, Case
from test_dues import plain_due
from unkeptlines.agents import Agent, Back, Through
from unkeptlines.clashes import clash, meeting
from unkeptlines.errors import Clashes, Stands
from unkeptlines.judging import is_right
from unkeptlines.machine import Machine
from unkeptlines.nets import Net
from unkeptlines.orders import Order
from unkeptlines.signals import Signal
from unkeptlines.thirds import first_pair, thirds
from unkeptlines.variables import Variable
from unkeptlines.ways import still

MAKERS = (net_in_turn, net_at_random, net_in_pairs)
X = Variable("x", 1, 0)


def on(word, name):
    return (word, name, 0, 0, 0)


N = Net(Variable("a", 1, 0), Variable("d", 1, 1), Signal("full"), Signal("empty", 1),
        Agent("n", ("wait", "empty"), on("write", "a"), ("post", "full")),
        Back("c", ("wait", "full"), on("flush", "a"), on("read", "a"), ("post", "empty")),
        Back("e", on("write", "d"), on("clean", "d")), line=4)


def plain_pairs(net, order, write, third):
    """For two places the rounds (i, j) that are taken, by looking at all rounds up to some."""
    taken = {}
    for i in range(24):
        for j in range(24):
            if (i % net.ring, j % net.ring) not in taken:
                if not order.ahead(write, i, third, j) and not order.ahead(third, j, write, i):
                    taken[i % net.ring, j % net.ring] = (i, j)
    return taken.values()


def plain_due_bytes(net, order):
    """All (write, rest, address) such that the write is due for the byte in the rounds with this rest."""
    found = set()
    for place in net.accesses():
        if net.step(place)[0] in ("read", "get"):
            for n in range(20, 20 + net.ring):
                told = plain_due(net, order, place, n, range(0, n + 2))
                for address, write in zip(net.touched(place, n), told):
                    if write is not None:
                        found.add((write[0], write[1] % net.ring, address))
    return found


def plain_thirds(net, line=None):
    """[34] worked out over all pairs of places and rounds."""
    line = line or net.line
    order, rows = Order(net), []
    due_bytes = plain_due_bytes(net, order)
    for write in net.accesses():
        for third in net.accesses():
            if net.step(write)[0] not in ("write", "put") or net.step(third)[0] != "write" or write[0] == third[0]:
                continue
            if net.agents[third[0]].KIND != "back":
                continue
            for i, j in plain_pairs(net, order, write, third):
                for x in net.touched(write, i):
                    for y in net.touched(third, j):
                        if (write, i % net.ring, x) in due_bytes and x // line == y // line:
                            rows.append((write, i, third, j, x, y))
    return sorted(rows)


class Thirds(Case):
    def test_example(self):
        self.assertEqual(list(thirds(N)), [((0, 1), 0, (2, 0), 0, 0, 1)])
        self.assertEqual(list(thirds(net=N.with_line(1))), [])
        self.assertEqual(list(thirds(FILL)), [])
        self.assertEqual(list(thirds(Net())), [])

    def test_by_plain_work(self):
        many, seen = 0, 0
        for maker, seeds in zip(MAKERS, (40, 60, 160)):
            for seed in range(seeds):
                net = maker(seed)
                if still(net) is None and clash(net) is None:
                    told = list(thirds(net))
                    self.assertEqual(told, plain_thirds(net), (maker, seed))
                    many, seen = many + len(told), seen + (told != [])
                    self.assertEqual(list(thirds(net.with_line(1))), [])
                    wide = net.with_line(16)
                    self.assertEqual(list(thirds(wide)), plain_thirds(wide), (maker, seed))
        self.assertGreater(many, 100)
        self.assertGreater(seen, 10)

    def test_each_once_and_ascending(self):
        seen = 0
        for seed in range(60):
            net = large_net(seed)
            if still(net) is None and clash(net) is None:
                told = list(thirds(net))
                self.assertEqual(told, sorted(set(told)))
                seen += len(told)
        self.assertGreater(seen, 500)

    def test_who_can_be_third(self):
        """A step write of a Back agent; anything that writes can be spoilt."""
        for kind, word, third in ((Back, "write", True), (Back, "put", False), (Through, "write", False),
                                  (Through, "put", False), (Agent, "write", False), (Back, "read", False),
                                  (Back, "get", False), (Back, "flush", False)):
            net = N.with_agents(*N.agents[:2], kind("e", on(word, "d")))
            self.assertEqual(list(thirds(net)), [((0, 1), 0, (2, 0), 0, 0, 1)] if third else [], (kind, word))
        for kind, word in ((Back, "write"), (Back, "put"), (Through, "write"), (Through, "put"), (Agent, "write")):
            net = N.with_agents(kind("n", ("wait", "empty"), on(word, "a"), ("post", "full")), *N.agents[1:])
            self.assertEqual(len(list(thirds(net))), 1)
        for word in ("read", "get"):
            net = N.with_agents(N.agents[0], Back("c", ("wait", "full"), on(word, "a"), ("post", "empty")), N.agents[2])
            self.assertEqual(len(list(thirds(net))), 1)

    def test_nobody_reads(self):
        net = N.with_agents(N.agents[0], Agent("c", ("wait", "full"), ("post", "empty")), N.agents[2])
        self.assertEqual(list(thirds(net)), [])

    def test_only_due_writes(self):
        """A write that is written over ahead of each read has no third write."""
        net = N.with_agents(Agent("n", ("wait", "empty"), on("write", "a"), on("write", "a"), ("post", "full")), *N.agents[1:])
        self.assertEqual(list(thirds(net)), [((0, 2), 0, (2, 0), 0, 0, 1)])

    def test_one_agent_is_no_third(self):
        net = Net(Variable("a", 1, 0), Variable("d", 1, 1), Back("n", on("write", "a"), on("read", "a"), on("write", "d")))
        self.assertEqual(list(thirds(net)), [])

    def test_all_bytes_of_a_pair(self):
        net = Net(Variable("a", 2, 1), Variable("b", 1, 3), Variable("d", 8, 4), Signal("s"), Signal("t", 1),
                  Back("n", ("wait", "t"), ("put", "a", 0, 0, 1), ("post", "s")),
                  Agent("c", ("wait", "s"), ("read", "a", 0, 0, 1), ("post", "t")),
                  Back("e", ("write", "d", 0, 2, 5)), line=8)
        self.assertEqual(list(thirds(net)), [((0, 1), 0, (2, 0), 0, x, y) for x in (1, 2) for y in (6, 7)])
        half = net.with_agents(net.agents[0], Agent("c", ("wait", "s"), ("read", "a", 0, 1, 1), ("post", "t")), net.agents[2])
        self.assertEqual(list(thirds(half)), [((0, 1), 0, (2, 0), 0, 2, y) for y in (6, 7)])
        self.assertEqual(len(list(thirds(net.with_line(16)))), 8)

    def test_the_first_pair_of_rounds(self):
        """Two slots: of each two rests the first round i, and for it the first round j, that are unordered."""
        def net(first, second):
            return Net(
                Variable("x", 1, 0, 1), Variable("y", 1, 2, 3), Signal("f"), Signal("g", first), Signal("s"),
                Signal("t", second),
                Agent("a", ("wait", "g"), ("write", "x", 0, 0, 0), ("post", "f"), ("post", "s"), ("wait", "t")),
                Agent("b", ("wait", "f"), ("read", "x", 0, 0, 0), ("post", "g")),
                Back("e", ("wait", "s"), ("write", "y", 0, 0, 0), ("post", "t")), line=4, ring=2)

        def rounds(told):
            return sorted({(i, j) for _, i, _, j, _, _ in told})

        # The third write waits for the write of its round, and the write of the next one or the one behind for it.
        self.assertEqual(rounds(thirds(net(1, 0))), [])
        self.assertEqual(rounds(thirds(net(1, 1))), [(1, 0), (2, 1)])
        self.assertEqual(rounds(thirds(net(1, 2))), [(1, 0), (2, 0), (2, 1), (3, 1)])
        for first, second in ((1, 1), (1, 2), (1, 3), (2, 3)):
            told = net(first, second)
            if clash(told) is None:
                self.assertEqual(list(thirds(told)), plain_thirds(told))

    def test_the_first_pair_by_counting(self):
        """For all lags that there can be, also for those that are none."""
        lags = [None, *range(14)]
        for ring in (1, 2, 3, 4):
            for least in lags:
                for behind in lags:
                    if (least, behind) == (0, 0):
                        continue
                    taken = {}
                    for i in range(24):
                        for j in range(24):
                            if (least is None or j - i < least) and (behind is None or i - j < behind):
                                taken.setdefault((i % ring, j % ring), (i, j))
                    for rest in range(ring):
                        for other in range(ring):
                            self.assertEqual(first_pair(ring, rest, other, least, behind), taken.get((rest, other)))

    def test_a_third_that_comes_first(self):
        """The write waits for the third one two rounds before; so of the first rounds each j can be taken."""
        net = Net(X, Variable("y", 1, 1), Signal("f"), Signal("g", 1), Signal("s", 2), Signal("t", 3),
                  Back("a", ("wait", "g"), ("wait", "s"), on("write", "x"), ("post", "f"), ("post", "t")),
                  Agent("b", ("wait", "f"), on("read", "x"), ("post", "g")),
                  Back("e", on("write", "y"), ("post", "s"), ("wait", "t")), ring=3)
        told = list(thirds(net))
        self.assertEqual(told, plain_thirds(net))
        self.assertEqual(sorted({(i % 3, j % 3) for _, i, _, j, _, _ in told}), [(i, j) for i in range(3) for j in range(3)])

    def test_both_can_be_next(self):
        seen = 0
        for seed in range(40):
            net = net_in_pairs(seed)
            if still(net) is None and clash(net) is None:
                for write, i, third, j, _, _ in list(thirds(net))[:5]:
                    machine = Machine(net)
                    for name in meeting(net, write, i, third, j):
                        machine.step(name)
                    self.assertEqual(machine.next_of(net.agents[write[0]].name), (write[1], i))
                    self.assertEqual(machine.next_of(net.agents[third[0]].name), (third[1], j))
                    self.assertFalse(is_right(net))
                    seen += 1
        self.assertGreater(seen, 10)

    def test_errors_in_order(self):
        clashing = Net(X, Agent("a", on("write", "x")), Agent("b", on("read", "x")))
        with self.assertRaises(Clashes) as caught:
            list(thirds(clashing))
        self.assertIs(type(caught.exception), Clashes)
        self.assertEqual({caught.exception.one, caught.exception.other}, {(0, 0), (1, 0)})
        both = Net(X, Signal("s"), Agent("a", ("wait", "s"), ("post", "s"), on("write", "x")), Agent("b", on("read", "x")))
        with self.assertRaises(Stands) as caught:
            next(iter(thirds(both)))
        self.assertIs(type(caught.exception), Stands)
        self.assertEqual(caught.exception.ring[0], caught.exception.ring[-1])

    def test_two_walks(self):
        net = N.with_agents(*N.agents[:2], Back("e", on("write", "d"), on("write", "d"), on("write", "d")))
        told = list(thirds(net))
        self.assertEqual(len(told), 3)
        one, other = iter(thirds(net)), iter(thirds(net))
        self.assertEqual([next(one), next(other), next(one), next(one), next(other)],
                         [told[0], told[0], told[1], told[2], told[1]])
        self.assertEqual((list(one), list(other)), ([], told[2:]))

    def test_changes_nothing(self):
        before = copy.deepcopy(N)
        list(thirds(N))
        self.assertEqual(N, before)


if __name__ == "__main__":
    unittest.main()

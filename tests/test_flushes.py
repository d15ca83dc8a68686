"""[35] and [36]: flushed and mended."""

import copy
import unittest

from drawn_nets import MANNERS, net_at_random, net_in_pairs, net_in_turn
from helpers import FILL, Case
from test_thirds import N
from unkeptlines.agents import Agent, Back, Through
from unkeptlines.clashes import clash
from unkeptlines.errors import Clashes, NoMend, Stands, TooMany
from unkeptlines.flushes import flushed, mended
from unkeptlines.judge import judge
from unkeptlines.judging import is_right
from unkeptlines.nets import Net
from unkeptlines.signals import Signal
from unkeptlines.thirds import thirds
from unkeptlines.variables import Variable
from unkeptlines.ways import still

MAKERS = (net_in_turn, net_at_random, net_in_pairs)
X = Variable("x", 4, 0)


def on(word, first=0, last=0):
    return (word, "x", 0, first, last)


def handed(*steps, kind=Back, writer=Agent):
    """Agent n writes a byte, then c does some steps, and so on."""
    return Net(Variable("b", 1, 0), Signal("full"), Signal("empty", 1),
               writer("n", ("wait", "empty"), ("write", "b", 0, 0, 0), ("post", "full")),
               kind("c", ("wait", "full"), *[(word, "b", 0, 0, 0) for word in steps], ("post", "empty")))


def plain_flushed(net):
    """The rows of steps of each agent, with True for those that are added."""
    rows = []
    for agent in net.agents:
        row = []
        for step in agent.steps:
            added = [(("flush",) + step[1:], True)] if step[0] in ("read", "write") and agent.KIND != "plain" else []
            row += added + [(step, False)] + added
        rows.append(row)
    return rows


def net_of(net, rows):
    agents = [type(agent)(agent.name, *[step for step, _ in row]) for agent, row in zip(net.agents, rows)]
    return Net(*net.variables, *net.signals, *agents, line=net.line, ring=net.ring)


def plain_mended(net, manner):
    rows = plain_flushed(net)
    for a in range(len(rows) - 1, -1, -1):
        for s in range(len(rows[a]) - 1, -1, -1):
            if rows[a][s][1]:
                fewer = rows[:a] + [rows[a][:s] + rows[a][s + 1:]] + rows[a + 1:]
                if is_right(net_of(net, fewer), **manner):
                    rows = fewer
    return rows


class Flushed(Case):
    def test_by_hand(self):
        net = Net(X, Variable("y", 2, 8), Signal("s", 1),
                  Back("a", on("read", 1, 2), ("wait", "s"), on("get"), on("put"), on("write", 0, 3), on("clean"),
                       ("post", "s")),
                  Through("b", ("write", "y", 2, 1, 1), on("drop"), on("flush")), Agent("c", on("read", 3, 3)), line=2)
        told = flushed(net=net)
        self.assertEqual(told, Net(
            X, Variable("y", 2, 8), Signal("s", 1),
            Back("a", on("flush", 1, 2), on("read", 1, 2), on("flush", 1, 2), ("wait", "s"), on("get"), on("put"),
                 on("flush", 0, 3), on("write", 0, 3), on("flush", 0, 3), on("clean"), ("post", "s")),
            Through("b", ("flush", "y", 2, 1, 1), ("write", "y", 2, 1, 1), ("flush", "y", 2, 1, 1), on("drop"), on("flush")),
            Agent("c", on("read", 3, 3)), line=2))

    def test_by_seed(self):
        for maker in MAKERS:
            for seed in range(40):
                net = maker(seed)
                rows = plain_flushed(net)
                if max(len(row) for row in rows) > 24:
                    self.raises(TooMany, {"most": 24}, flushed, net)
                else:
                    self.assertEqual(flushed(net), net_of(net, rows))

    def test_how_many(self):
        """24 steps and 25: a get and a put are not flushed, and a plain agent is not flushed at all."""
        for kind in (Back, Through):
            for word in ("read", "write"):
                self.assertEqual(len(flushed(Net(X, kind("a", *[on(word)] * 8))).agents[0]), 24)
                self.assertEqual(len(flushed(Net(X, kind("a", *[on(word)] * 7, on("get"), on("put"), on("clean")))).agents[0]), 24)
                self.raises(TooMany, {"most": 24}, flushed, Net(X, kind("a", *[on(word)] * 8, on("get"))))
                self.raises(TooMany, {"most": 24}, flushed, Net(X, kind("a", *[on(word)] * 9)))
            many = Net(X, kind("a", *[on("get"), on("put")] * 12))
            self.assertEqual(flushed(many), many)
        plain = Net(X, Agent("a", *[on("read")] * 24))
        self.assertEqual(flushed(plain), plain)
        self.assertEqual(flushed(Net()), Net())

    def test_what_it_means(self):
        seen = []
        for maker in MAKERS:
            for seed in range(80):
                net = maker(seed)
                if still(net) is None and clash(net) is None:
                    try:
                        full = flushed(net)
                    except TooMany:
                        continue
                    none = list(thirds(net)) == []
                    for manner in MANNERS:
                        self.assertIs(is_right(full, **manner), none or not manner["whole"])
                        # More flushes never make a right net wrong.
                        self.assertTrue(is_right(full, **manner) or not is_right(net, **manner))
                    seen.append(none)
        self.assertGreater(seen.count(False), 5)
        self.assertGreater(seen.count(True), 60)

    def test_it_raises_nothing_else(self):
        stands = Net(X, Signal("s"), Back("a", ("wait", "s"), on("read"), ("post", "s")), Agent("b", on("write")))
        self.assertEqual(flushed(stands).agents[0].steps[1], on("flush"))
        clashing = Net(X, Back("a", on("read")), Agent("b", on("write")))
        self.assertEqual(len(flushed(clashing).agents[0]), 3)


class Mended(Case):
    def test_example(self):
        net = handed("read")
        self.assertEqual(mended(net).agents[1].steps,
                         (("wait", "full"), ("flush", "b", 0, 0, 0), ("read", "b", 0, 0, 0), ("post", "empty")))
        self.assertEqual(mended(net=net, eager=True, whole=True), mended(net))
        self.assertEqual(mended(net).agents[0], net.agents[0])
        self.assertEqual(mended(handed("flush", "read")), handed("flush", "read"))

    def test_the_order_of_looking(self):
        """The flush behind is looked at first, and the last agent first."""
        net = handed("read", writer=Back)
        told = mended(net)
        self.assertEqual([step[0] for step in told.agents[0].steps], ["wait", "write", "flush", "post"])
        self.assertEqual([step[0] for step in told.agents[1].steps], ["wait", "flush", "read", "post"])
        calm = mended(net, eager=False)
        self.assertEqual([step[0] for step in calm.agents[1].steps], ["wait", "flush", "read", "post"])
        two = handed("read", "read")
        self.assertEqual([step[0] for step in mended(two).agents[1].steps], ["wait", "flush", "read", "read", "post"])

    def test_manners_by_default(self):
        """With calm caches a drop ahead of the wait is enough; with eager ones it is not."""
        steps = (("drop", "buf", 0, 0, 1), ("wait", "full"), ("read", "buf", 0, 0, 1), ("post", "empty"))
        net = FILL.with_agents(FILL.agents[0], Back("cpu", *steps))
        self.assertEqual(mended(net, eager=False), net)
        for told in (mended(net), mended(net, eager=True), mended(net, whole=True)):
            self.assertEqual(told.agents[1].steps, (*steps[:2], ("flush", "buf", 0, 0, 1), *steps[2:]))

    def test_upkeep_of_the_net_stays(self):
        """An upkeep of the net itself is never removed, even if it helps nothing."""
        net = handed("flush", "clean", "drop", "read", "drop", "get")
        for manner in MANNERS:
            self.assertEqual(mended(net, **manner), net)
        net = handed("clean", "read", "clean")
        self.assertEqual([step[0] for step in mended(net).agents[1].steps], ["wait", "clean", "flush", "read", "clean", "post"])

    def test_by_plain_removal(self):
        added, seen = 0, 0
        for maker in MAKERS:
            for seed in range(40):
                net = maker(seed)
                if still(net) is not None or clash(net) is not None:
                    continue
                if max(len(row) for row in plain_flushed(net)) > 24:
                    continue
                for manner in MANNERS:
                    if manner["whole"] and list(thirds(net)):
                        continue
                    told, rows = mended(net, **manner), plain_mended(net, manner)
                    self.assertEqual(told, net_of(net, rows), (maker, seed, manner))
                    self.assertIs(is_right(told, **manner), True)
                    self.assertEqual(is_right(net, **manner), told == net)
                    self.none_can_be_left_out(net, rows, manner)
                    added += sum(len(agent) for agent in told.agents) - sum(len(agent) for agent in net.agents)
                    seen += 1
        self.assertGreater(seen, 150)
        self.assertGreater(added, 30)

    def none_can_be_left_out(self, net, rows, manner):
        for a, row in enumerate(rows):
            for s, (_, added) in enumerate(row):
                if added:
                    fewer = rows[:a] + [row[:s] + row[s + 1:]] + rows[a + 1:]
                    self.assertIs(is_right(net_of(net, fewer), **manner), False)

    def test_third_writes(self):
        third = list(thirds(N))[0]
        for eager in (True, False):
            self.raises(NoMend, {"third": third}, mended, N, eager=eager)
            told = mended(N, eager=eager, whole=False)
            self.assertIs(is_right(told, eager=eager, whole=False), True)
        self.assertEqual(mended(N.with_line(1)), N.with_line(1))

    def test_the_first_third_write(self):
        seen = 0
        for seed in range(80):
            net = net_in_pairs(seed)
            if still(net) is None and clash(net) is None:
                rows = list(thirds(net))
                if rows:
                    self.raises(NoMend, {"third": rows[0]}, mended, net)
                    self.raises(NoMend, {"third": rows[0]}, mended, net, eager=False)
                    seen += 1
        self.assertGreater(seen, 5)

    def test_too_many(self):
        """Also for a right net."""
        right = Net(X, Back("a", *[on("read")] * 9))
        self.assertIs(is_right(right), True)
        for manner in MANNERS:
            self.raises(TooMany, {"most": 24}, mended, right, **manner)
        self.assertEqual(mended(Net(X, Back("a", *[on("read")] * 8))), Net(X, Back("a", *[on("read")] * 8)))

    def test_errors_in_order(self):
        """Stands, Clashes, NoMend, TooMany: each one ahead of those behind it."""
        many = Back("c", ("wait", "full"), *[("read", "a", 0, 0, 0)] * 9, ("post", "empty"))
        net = N.with_agents(N.agents[0], many, N.agents[2])
        self.raises(NoMend, {"third": ((0, 1), 0, (2, 0), 0, 0, 1)}, mended, net)
        self.raises(TooMany, {"most": 24}, mended, net, whole=False)
        self.raises(TooMany, {"most": 24}, mended, net.with_line(1))
        clashing = net + Agent("o", ("write", "a", 0, 0, 0))
        stands = Net(*clashing.variables, Signal("full"), Signal("empty"), *clashing.agents, line=4)
        for manner in MANNERS:
            with self.assertRaises(Clashes) as caught:
                mended(clashing, **manner)
            self.assertIs(type(caught.exception), Clashes)
            with self.assertRaises(Stands) as caught:
                mended(stands, **manner)
            self.assertIs(type(caught.exception), Stands)

    def test_judged_right(self):
        for manner in MANNERS:
            for net in (FILL, handed("write", "read", writer=Through), handed("read", kind=Through, writer=Back)):
                told = mended(net, **manner)
                self.assertEqual(judge(told, **manner).word, "right")

    def test_without_agents(self):
        for manner in MANNERS:
            self.assertEqual(mended(Net(X, line=2), **manner), Net(X, line=2))

    def test_changes_nothing(self):
        net = handed("read", "write")
        before = copy.deepcopy(net)
        flushed(net)
        mended(net)
        self.assertEqual(net, before)


if __name__ == "__main__":
    unittest.main()

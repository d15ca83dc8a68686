"""[10]: nets."""

import copy
import itertools
import unittest

from helpers import ANY, FILL, GOOGOL, INTEGERS, NOTHINGS, Case
from unkeptlines.agents import Agent, Back, Through
from unkeptlines.errors import NoName, NoNet
from unkeptlines.lags import Lag
from unkeptlines.nets import Net
from unkeptlines.signals import Signal
from unkeptlines.variables import Variable

X = Variable("x", 2, 0)
Y = Variable("y", 2, 8)
S = Signal("s")
POSTS = Agent("p", ("post", "s"))
WAITS = Agent("w", ("wait", "s"))
READS = Agent("r", ("read", "x", 0, 0, 1))
NAMES = ["aa", "ab", "ac", "ad", "ae", "af", "ag", "ah"]


def variables(many, size=1):
    return [Variable(name, size, 16 * k) for k, name in enumerate(NAMES[:many])]


def agents(many):
    return [Agent("g" + name, ("read", "x", 0, 0, 0)) for name in NAMES[:many]]


def signalling(many):
    """Signals, and an agent that posts and waits for each of them."""
    names = ["s" + name for name in NAMES[:many]]
    steps = [(word, name) for name in names for word in ("wait", "post")]
    return [Signal(name, 1) for name in names], Agent.made("z", steps)


class NetCase(Case):
    def no_net(self, reason, place, *parts, **more):
        fields = {"reason": reason, "place": place}
        self.raises(NoNet, fields, Net, *parts, **more)
        self.raises(NoNet, fields, Net.made, parts, **more)
        self.raises(NoNet, fields, Net.made, list(parts), **more)


class Made(NetCase):
    def test_attributes(self):
        net = Net(POSTS, X, S, READS, Y, WAITS, line=4, ring=3)
        self.assertEqual((net.line, net.ring), (4, 3))
        self.assertEqual(net.variables, (X, Y))
        self.assertEqual(net.signals, (S,))
        self.assertEqual(net.agents, (POSTS, READS, WAITS))
        for value in (net.variables, net.signals, net.agents):
            self.assertIs(type(value), tuple)
        self.assertIs(net.agents[1], READS)

    def test_nothing(self):
        for net in (Net(), Net.made(()), Net.made([]), Net.made(parts=())):
            self.assertEqual((net.line, net.ring, net.variables, net.signals, net.agents), (8, 1, (), (), ()))
            self.assertEqual(len(net), 0)
            self.assertEqual(net, Net())
            self.assertNotIn("a", net)
            self.assertEqual(list(net.places()), [])

    def test_parts_in_any_order(self):
        parts = [X, Y, S, POSTS, WAITS]
        for order in itertools.permutations(parts):
            net = Net(*order)
            self.assertEqual(net.variables, tuple(part for part in order if isinstance(part, Variable)))
            self.assertEqual(net.agents, tuple(part for part in order if isinstance(part, Agent)))
            self.assertEqual(net.signals, (S,))
            self.assertEqual(net == Net(*parts), net.variables == (X, Y) and net.agents == (POSTS, WAITS))

    def test_made(self):
        for parts in ((X, S, POSTS, WAITS), [X, S, POSTS, WAITS]):
            self.assertEqual(Net.made(parts, line=2, ring=3), Net(X, S, POSTS, WAITS, line=2, ring=3))
            self.assertEqual(Net.made(parts), Net(X, S, POSTS, WAITS))
            self.assertIs(type(Net.made(parts)), Net)

    def test_made_keeps_nothing_of_a_list(self):
        parts = [X, READS]
        net = Net.made(parts)
        self.assertEqual(parts, [X, READS])
        parts[0] = Y
        parts.append(S)
        self.assertEqual(net, Net(X, READS))
        self.assertIn("x", net)
        self.assertNotIn("y", net)

    def test_line_and_ring_are_told_by_name(self):
        with self.assertRaises(TypeError):
            Net.made((), 8)
        with self.assertRaises(TypeError):
            Net.made((), 8, 1)


class Clauses(NetCase):
    def test_lines(self):
        self.assertEqual(Net.LINES, (1, 2, 4, 8, 16))
        self.assertEqual(Net(line=4).LINES, (1, 2, 4, 8, 16))
        for line in (1, 2, 4, 8, 16):
            self.assertEqual(Net(line=line).line, line)
            self.assertEqual(Net.made((), line=line).line, line)
        for line in [0, 3, 5, 6, 7, 9, 12, 15, 17, 32, -1, -8, GOOGOL, -GOOGOL, "x", "8", (0, 0), (8,), [8]] + NOTHINGS:
            self.no_net("line", None, line=line)
            self.no_net("line", None, None, line=line, ring=0)

    def test_rings(self):
        for ring in (1, 2, 3, 4):
            self.assertEqual(Net(ring=ring).ring, ring)
            self.assertEqual(Net.made([], ring=ring).ring, ring)
        for ring in [0, 5, -1, GOOGOL, -GOOGOL, "x", "1", (0, 0)] + NOTHINGS:
            self.no_net("ring", None, ring=ring)
            self.no_net("ring", None, None, ring=ring)

    def test_parts(self):
        for part in ANY + [("read", "x", 0, 0, 0), Net(), Lag(0), Lag(None), Variable, Agent, Signal]:
            self.no_net("part", 0, part)
            self.no_net("part", 0, part, part)
            self.no_net("part", 2, X, S, part, X)

    def test_many_agents(self):
        self.assertEqual(len(Net(X, *agents(4))), 4)
        self.no_net("many", 5, X, *agents(5))
        self.no_net("many", 4, *agents(5), X)
        self.no_net("many", 5, X, *agents(6))

    def test_many_variables(self):
        self.assertEqual(len(Net(*variables(6)).variables), 6)
        self.no_net("many", 6, *variables(7))
        self.no_net("many", 7, S, *variables(7))
        self.no_net("many", 6, *variables(8))

    def test_many_signals(self):
        signals, agent = signalling(6)
        self.assertEqual(len(Net(*signals, agent).signals), 6)
        signals, agent = signalling(7)
        self.no_net("many", 6, *signals, agent)
        self.no_net("many", 7, agent, *signals)
        self.no_net("many", 7, X, *signals)

    def test_the_first_of_many(self):
        signals, _ = signalling(7)
        self.no_net("many", 10, *signals[:6], *agents(5), *variables(7))
        self.no_net("many", 10, *agents(4), *variables(6), agents(5)[4], signals[0])
        self.no_net("many", 16, *variables(6), *agents(4), *signals)
        self.no_net("many", 16, *variables(6), *agents(4), *signals[:6], signals[0])

    def test_names_across_kinds(self):
        a = {"variable": Variable("a", 1, 100), "signal": Signal("a"), "agent": Agent("a", ("read", "x", 0, 0, 0))}
        for one in a.values():
            for other in a.values():
                self.no_net("name", 1, one, other)
                self.no_net("name", 3, X, one, READS, other)
                self.no_net("name", 3, X, one, READS, other, one, X)
        self.no_net("name", 1, Agent("a", ("read", "x", 0, 0, 0)), Back("a", ("read", "x", 0, 0, 0)))
        self.assertEqual(len(Net(X, S, POSTS, WAITS)), 2)

    def test_slots(self):
        for ring in (1, 2, 3, 4):
            for many in (1, 2, 3, 4):
                variable = Variable("v", 1, *range(50, 50 + many))
                if many in (1, ring):
                    self.assertEqual(Net(X, variable, ring=ring).variables[1], variable)
                else:
                    self.no_net("slots", 0, variable, ring=ring)
                    self.no_net("slots", 2, X, S, variable, ring=ring)
                    self.no_net("slots", 1, READS, variable, Variable("w", 1, 90, 91, 92, 93), X, ring=1)

    def test_bytes(self):
        for size in range(1, 9):
            for apart in range(-size - 1, size + 2):
                one = Variable("v", size, 50)
                other = Variable("w", size, 50 + apart)
                if abs(apart) < size:
                    self.no_net("bytes", 1, one, other)
                    self.no_net("bytes", 3, X, one, READS, other, one.made("u", 1, (50,)))
                else:
                    self.assertEqual(Net(one, other).variables, (one, other))
        one = Variable("v", 2, 10, 20)
        self.no_net("bytes", 1, one, Variable("w", 2, 30, 21), ring=2)
        self.no_net("bytes", 1, one, Variable("w", 4, 17), ring=2)
        self.no_net("bytes", 1, Variable("w", 1, 20), one, ring=2)
        self.no_net("bytes", 2, one, Variable("w", 2, 12, 22), Variable("u", 1, 23), ring=2)
        self.assertEqual(len(Net(one, Variable("w", 2, 12, 22), Variable("u", 4, 14), ring=2).variables), 3)

    def test_steps_of_no_variable(self):
        self.no_net("step", (0, 0), READS)
        self.no_net("step", (0, 0), READS, Y)
        self.no_net("step", (0, 0), READS, Signal("x"))
        self.no_net("step", (0, 0), Agent("a", ("read", "a", 0, 0, 0)))
        self.no_net("step", (1, 2), X, READS, Agent("a", *[("read", "x", 0, 0, 0)] * 2, ("read", "z", 0, 0, 0)), READS.made(
            "b", [("write", "q", 0, 0, 0)]))
        for word in ("read", "write", "get", "put", "clean", "drop", "flush"):
            self.no_net("step", (0, 0), S, Back("a", (word, "s", 0, 0, 0), ("post", "s"), ("wait", "s")))

    def test_last_bytes(self):
        for size in range(1, 9):
            variable = Variable("v", size, 0)
            for word in ("read", "write", "get", "put", "clean", "drop", "flush"):
                for last in range(8):
                    step = (word, "v", 0, 0, last)
                    if last < size:
                        self.assertEqual(Net(variable, Back("a", step)).agents[0][0], step)
                    else:
                        self.no_net("step", (0, 0), variable, Back("a", step))
                        self.no_net("step", (1, 1), Through("b", (word, "v", 3, 0, 0)),
                                    Back("a", (word, "v", 0, 0, 0), (word, "v", 0, last, last)), variable)

    def test_shifts_are_free(self):
        for shift in range(4):
            self.assertEqual(len(Net(X, Agent("a", ("read", "x", shift, 0, 0)))), 1)

    def test_steps_of_no_signal(self):
        self.no_net("step", (0, 0), POSTS)
        self.no_net("step", (0, 0), WAITS, Signal("t"))
        self.no_net("step", (0, 0), POSTS, WAITS, Variable("s", 1, 0))
        self.no_net("step", (1, 0), POSTS.made("p", [("post", "t")]), WAITS, Signal("t"))
        self.no_net("step", (0, 1), S, Agent("a", ("post", "s"), ("wait", "a")), WAITS)

    def test_signals(self):
        both = Agent("b", ("post", "s"), ("wait", "s"))
        self.assertEqual(len(Net(S, POSTS, WAITS)), 2)
        self.assertEqual(len(Net(S, both)), 1)
        self.no_net("signal", 0, S)
        self.no_net("signal", 0, S, POSTS)
        self.no_net("signal", 0, S, WAITS)
        self.no_net("signal", 1, WAITS, S)
        self.no_net("signal", 2, both, POSTS, S)
        self.no_net("signal", 2, both, WAITS, S)
        self.no_net("signal", 0, S, POSTS, POSTS.made("q", POSTS.steps), WAITS)
        self.no_net("signal", 0, S, POSTS, WAITS, WAITS.made("v", WAITS.steps))
        self.no_net("signal", 0, S, Agent("b", ("post", "s"), ("post", "s")), WAITS)
        self.no_net("signal", 0, S, Agent("b", ("wait", "s"), ("wait", "s")), POSTS)
        self.no_net("signal", 0, S, Agent("b", ("post", "s"), ("wait", "s"), ("post", "s"), ("wait", "s")))
        self.no_net("signal", 1, both, Signal("t"), S, Signal("u"))
        self.no_net("signal", 3, X, S, both, Signal("t"))


class Precedence(NetCase):
    """Two of the clauses wrong at once: the first one counts."""

    def test_pairs(self):
        bad = {
            "part": [None],
            "many": agents(5),
            "name": [Variable("n", 1, 200), Signal("n")],
            "slots": [Variable("m", 1, 210, 211)],
            "bytes": [Variable("ba", 2, 220), Variable("bb", 2, 221)],
            "step": [Agent("st", ("read", "nowhere", 0, 0, 0))],
            "signal": [Signal("si")],
        }
        reasons = list(bad)
        for first, later in itertools.combinations(reasons, 2):
            for parts in (bad[first] + bad[later], bad[later] + bad[first]):
                with self.assertRaises(NoNet) as caught:
                    Net(*parts)
                self.assertEqual(caught.exception.reason, first, (first, later))
        for reason in reasons:
            self.raises(NoNet, {"reason": "line", "place": None}, Net, *bad[reason], line=3, ring=9)
            self.raises(NoNet, {"reason": "ring", "place": None}, Net, *bad[reason], ring=9)

    def test_places(self):
        self.no_net("part", 8, X, *agents(5), X, Y, None)
        self.no_net("many", 6, X, X, *agents(5))
        self.no_net("name", 3, Variable("v", 1, 50, 51), X, Variable("w", 1, 0), Signal("x"))
        self.no_net("slots", 2, X, Variable("w", 1, 0), Variable("v", 1, 50, 51), POSTS)
        self.no_net("bytes", 2, POSTS, X, Variable("w", 1, 0))
        self.no_net("step", (0, 0), S, READS)
        self.no_net("step", (0, 1), Agent("a", ("read", "x", 0, 0, 0), ("post", "t")), Agent("b", ("wait", "t")), X)


class Asked(NetCase):
    def test_names(self):
        net = Net(X, S, POSTS, WAITS)
        for name, part in (("x", X), ("s", S), ("p", POSTS), ("w", WAITS)):
            self.assertIs(name in net, True)
            self.assertIs(net[name], part)
        for name in ANY + ["y", "post", "p ", ("p",), ["p"], {"p": POSTS}, {"w"}]:
            if name != "x":
                self.assertIs(name in net, False, name)
                error = self.raises(NoName, {"name": name}, lambda at: net[at], name)
                self.assertIs(error.name, name)

    def test_a_net_is_no_list(self):
        for value in (FILL, X, READS):
            with self.assertRaises(TypeError):
                list(value)

    def test_len(self):
        for many in range(5):
            self.assertEqual(len(Net(X, Y, *agents(many))), many)

    def test_equal(self):
        one = Net(X, Y, S, POSTS, WAITS, line=4, ring=2)
        self.assertTrue(one == Net(POSTS, X, S, Y, WAITS, line=4, ring=2))
        self.assertFalse(one != Net(POSTS, X, S, Y, WAITS, line=4, ring=2))
        for other in (Net(X, Y, S, POSTS, WAITS, line=2, ring=2), Net(X, Y, S, POSTS, WAITS, line=4, ring=1),
                      Net(Y, X, S, POSTS, WAITS, line=4, ring=2), Net(X, Y, S, WAITS, POSTS, line=4, ring=2),
                      Net(X, S, POSTS, WAITS, line=4, ring=2),
                      Net(X, Y, Signal("s", 1), POSTS, WAITS, line=4, ring=2),
                      Net(X, Y, S, POSTS, WAITS, READS, line=4, ring=2),
                      Net(X, Y, S, POSTS, Through("w", ("wait", "s")), line=4, ring=2),
                      Net(), X, S, POSTS, Lag(0), (X, Y, S, POSTS, WAITS), "x", 2, None, [one], {}):
            self.assertIs(one == other, False)
            self.assertIs(other == one, False)
            self.assertIs(one != other, True)
        signals, agent = signalling(2)
        self.assertFalse(Net(*signals, agent) == Net(*signals[::-1], agent))

    def test_any_value_is_not_changed(self):
        for value in ANY:
            before = copy.deepcopy(value)
            for call in (lambda: Net(value), lambda: Net(line=value), lambda: Net(ring=value), lambda: FILL[value],
                         lambda: value in FILL, lambda: FILL + value, lambda: FILL.step(value)):
                try:
                    call()
                except ValueError:
                    pass
            self.assertEqual(value, before)


class Changed(NetCase):
    def test_plus(self):
        net = Net(POSTS, X, WAITS, S, line=4, ring=2)
        self.assertEqual(net + READS, Net(POSTS, X, WAITS, S, READS, line=4, ring=2))
        self.assertEqual(net + Y, Net(POSTS, X, WAITS, S, Y, line=4, ring=2))
        self.assertEqual((net + READS).agents, (POSTS, WAITS, READS))
        self.assertEqual((net + Variable("v", 1, 90, 91)).variables[1].at, (90, 91))
        self.assertEqual(net, Net(POSTS, X, WAITS, S, line=4, ring=2))
        self.assertEqual((Net() + X + READS).agents, (READS,))

    def test_plus_with_errors(self):
        net = Net(POSTS, X, WAITS, S)
        for part in ANY + [net]:
            self.raises(NoNet, {"reason": "part", "place": 4}, lambda it: net + it, part)
        for part, reason, place in (
                (X, "name", 4), (Variable("v", 1, 1), "bytes", 4), (Variable("v", 1, 50, 51), "slots", 4),
                (Signal("t"), "signal", 4), (Agent("a", ("read", "y", 0, 0, 0)), "step", (2, 0)),
                (Agent("a", ("read", "x", 0, 0, 0), ("read", "x", 0, 0, 2)), "step", (2, 1)),
                # The parts come in the order variables, signals, agents: so the signal is parts[1].
                (Agent("a", ("wait", "s")), "signal", 1)):
            self.raises(NoNet, {"reason": reason, "place": place}, lambda it: net + it, part)
        full = Net(*agents(4), X)
        self.raises(NoNet, {"reason": "many", "place": 5}, lambda: full + READS)
        self.raises(NoNet, {"reason": "many", "place": 6}, lambda: Net(*variables(6)) + Variable("v", 1, 900))

    def test_with_line(self):
        net = Net(POSTS, X, WAITS, S, line=4, ring=2)
        for line in (1, 2, 4, 8, 16):
            self.assertEqual(net.with_line(line), Net(POSTS, X, WAITS, S, line=line, ring=2))
            self.assertEqual(net.with_line(line=line).line, line)
        self.assertEqual(net.line, 4)
        for line in NOTHINGS + [0, 3, 32, GOOGOL, -1]:
            self.raises(NoNet, {"reason": "line", "place": None}, net.with_line, line)

    def test_with_agents(self):
        net = Net(POSTS, X, WAITS, S, Y, line=4, ring=2)
        both = Back("b", ("post", "s"), ("read", "y", 0, 0, 1), ("wait", "s"))
        self.assertEqual(net.with_agents(both), Net(X, Y, S, both, line=4, ring=2))
        self.assertEqual(net.with_agents(WAITS, READS, POSTS).agents, (WAITS, READS, POSTS))
        self.assertEqual(net.agents, (POSTS, WAITS))
        self.assertEqual(net.with_agents(*net.agents), net)
        self.assertEqual(Net(X, READS).with_agents(), Net(X))

    def test_with_agents_with_errors(self):
        net = Net(POSTS, X, WAITS, S)
        for part in ANY:
            self.raises(NoNet, {"reason": "part", "place": 2}, net.with_agents, part)
            self.raises(NoNet, {"reason": "part", "place": 3}, net.with_agents, POSTS, part)
        self.raises(NoNet, {"reason": "signal", "place": 1}, net.with_agents)
        self.raises(NoNet, {"reason": "signal", "place": 1}, net.with_agents, POSTS)
        self.raises(NoNet, {"reason": "many", "place": 6}, net.with_agents, *agents(5))
        self.raises(NoNet, {"reason": "name", "place": 3}, net.with_agents, POSTS, POSTS)
        self.raises(NoNet, {"reason": "name", "place": 2}, net.with_agents, Agent("x", ("wait", "s")))
        self.raises(NoNet, {"reason": "step", "place": (1, 0)}, net.with_agents, POSTS,
                    Agent("a", ("write", "y", 0, 0, 0)))


if __name__ == "__main__":
    unittest.main()

"""[17] and [18]: meetings and clashes."""

import copy
import unittest

from drawn_nets import net_at_random, net_in_pairs, net_in_turn
from helpers import ANY, FILL, Case
from nets_by_seed import net_by_seed
from unkeptlines.agents import Agent, Back, Through
from unkeptlines.clashes import clash, meeting
from unkeptlines.errors import NoStep, Stands
from unkeptlines.nets import Net
from unkeptlines.orders import Order
from unkeptlines.signals import Signal
from unkeptlines.variables import Variable
from unkeptlines.ways import still, sum_of

X = Variable("x", 4, 0)
READ = ("read", "x", 0, 0, 0)
WRITE = ("write", "x", 0, 0, 0)
STANDS = Net(X, Signal("s"), Agent("a", ("wait", "s"), ("post", "s"), WRITE), Agent("b", WRITE))
MAKERS = (net_in_turn, net_at_random, net_in_pairs)


def after_names(net, names):
    """(step, round) of each agent and the tokens, after some names; a wait without a token is an error."""
    tokens = {signal.name: signal.tokens for signal in net.signals}
    done = {agent.name: 0 for agent in net.agents}
    steps = {agent.name: agent.steps for agent in net.agents}
    for name in names:
        step = steps[name][done[name] % len(steps[name])]
        if step[0] == "wait":
            assert tokens[step[1]] > 0, (name, step)
            tokens[step[1]] -= 1
        if step[0] == "post":
            tokens[step[1]] += 1
        done[name] += 1
    return [(done[agent.name] % len(agent), done[agent.name] // len(agent)) for agent in net.agents], tokens


class Meetings(Case):
    def check(self, net, one, n, other, m, order=None):
        order = order or Order(net)
        names = meeting(net, one, n, other, m)
        if one[0] == other[0] or order.ahead(one, n, other, m) or order.ahead(other, m, one, n):
            self.assertIsNone(names, (one, n, other, m))
            return
        self.assertIs(type(names), tuple)
        self.assertLessEqual(len(names), 3000)
        at, tokens = after_names(net, names)
        for place, k in ((one, n), (other, m)):
            self.assertEqual(at[place[0]], (place[1], k))
            step = net.step(place)
            self.assertTrue(step[0] != "wait" or tokens[step[1]] > 0, (one, n, other, m))

    def test_fill(self):
        self.assertIsNone(meeting(FILL, (0, 1), 0, (1, 1), 0))
        self.assertIsNone(meeting(FILL, (1, 1), 0, (0, 1), 1))
        self.assertIsNone(meeting(net=FILL, one=(0, 1), n=3, other=(1, 1), m=2))
        self.assertIsNone(meeting(FILL, (0, 2), 3, (1, 0), 3))
        self.assertIsNone(meeting(FILL, (1, 2), 2, (0, 0), 3))

    def test_exactly_by_the_lag(self):
        net = Net(X, Signal("s", 2), Agent("a", ("post", "s"), READ), Agent("b", ("wait", "s"), READ))
        for n in (0, 1, 5):
            self.assertIsNone(meeting(net, (0, 0), n, (1, 0), n + 2))
            self.assertIsNone(meeting(net, (1, 0), n + 2, (0, 0), n))
            self.assertIsNone(meeting(net, (0, 1), n, (1, 1), n + 3))
            self.check(net, (0, 0), n, (1, 0), n + 1)
            self.assertIsNotNone(meeting(net, (0, 0), n, (1, 0), n + 1))
            self.assertIsNotNone(meeting(net, (0, 1), n, (1, 1), n + 2))
            self.assertIsNotNone(meeting(net, (0, 1), 30, (1, 1), 0))

    def test_one_agent(self):
        for n in (0, 3):
            for m in (0, 3):
                for one in FILL.places():
                    for other in FILL.places():
                        if one[0] == other[0]:
                            self.assertIsNone(meeting(FILL, one, n, other, m))

    def test_first_steps_and_last_rounds(self):
        free = Net(X, Agent("a", *[READ] * 24), Back("b", *[WRITE] * 24), Through("c", READ), Agent("d", WRITE))
        self.assertEqual(meeting(free, (0, 0), 0, (1, 0), 0), ())
        for n in (0, 30):
            for m in (0, 30):
                for s in (0, 23):
                    self.check(free, (0, s), n, (1, 23), m)
                    self.check(free, (2, 0), n, (1, s), m)

    def test_at_most_3000_names(self):
        """One agent waits in each round for nearly all steps of the three others."""
        others = [Agent(name, *[READ] * 22, ("post", "s" + name), READ) for name in "bcd"]
        waits = [("wait", "s" + name) for name in "bcd"]
        net = Net(X, Signal("sb"), Signal("sc"), Signal("sd"), Agent("a", *waits, *[READ] * 21), *others)
        for b in (1, 2, 3):
            self.check(net, (0, 23), 30, (b, 23), 30)
            self.assertEqual(len(meeting(net, (0, 23), 30, (b, 23), 30)), 4 * (30 * 24 + 23))
            self.assertIsNone(meeting(net, (0, 23), 30, (b, 22), 30))

    def test_by_seed(self):
        for seed in range(40):
            net = net_by_seed(seed)
            if still(net) is None:
                order = Order(net)
                for one in net.places():
                    for other in net.places():
                        for n, m in ((0, 0), (0, 2), (3, 2), (30, 30)):
                            self.check(net, one, n, other, m, order)

    def test_some_rounds_meet(self):
        met = 0
        for seed in range(40):
            net = net_in_pairs(seed)
            for one in net.places():
                for other in net.places():
                    met += still(net) is None and one < other and meeting(net, one, 2, other, 3) is not None
        self.assertGreater(met, 500)

    def test_stands(self):
        with self.assertRaises(Stands) as caught:
            meeting(STANDS, (0, 0), 0, (1, 0), 0)
        ring = caught.exception.ring
        self.assertEqual((ring[0], sum_of(STANDS, ring)), (ring[-1], 0))
        with self.assertRaises(Stands):
            meeting(STANDS, (0, 0), 0, (0, 0), 0)

    def test_places(self):
        for bad in ANY:
            if bad != (0, 0) or isinstance(bad, list):
                for net in (FILL, STANDS):
                    self.raises(NoStep, {"place": bad}, meeting, net, bad, 0, (1, 0), 0)
                    self.raises(NoStep, {"place": bad}, meeting, net, (0, 0), 0, bad, 0)
                    self.raises(NoStep, {"place": bad}, meeting, net, bad, 0, (9, 9), 0)
        self.raises(NoStep, {"place": (0, 3)}, meeting, FILL, (0, 3), 0, (1, 3), 0)
        self.raises(NoStep, {"place": (1, 3)}, meeting, FILL, (0, 2), 0, (1, 3), 0)

    def test_changes_nothing(self):
        before = copy.deepcopy(FILL)
        meeting(FILL, (0, 1), 1, (1, 1), 1)
        clash(FILL)
        self.assertEqual(FILL, before)


def all_clashes(net, order, rounds):
    """All that clash with the first access in one of these rounds and the other one in any up to round 30."""
    found = set()
    for one in net.accesses():
        for other in net.accesses():
            words = (net.step(one)[0], net.step(other)[0])
            if one[0] == other[0] or not ("write" in words or "put" in words):
                continue
            for n in rounds:
                for m in range(31):
                    if set(net.touched(one, n)) & set(net.touched(other, m)):
                        if not (order.ahead(one, n, other, m) or order.ahead(other, m, one, n)):
                            found.add((one, n, other, m))
    return found


class Clash(Case):
    def check(self, net):
        order = Order(net)
        found = clash(net)
        if found is None:
            self.assertEqual(all_clashes(net, order, range(0, 31, 7)), set())
            return False
        one, n, other, m = found
        self.assertIs(type(found), tuple)
        self.assertTrue(0 <= n <= 30 and 0 <= m <= 30, found)
        self.assertIn(found, all_clashes(net, order, [n]))
        self.assertIsNotNone(meeting(net, one, n, other, m))
        return True

    def test_by_seed(self):
        clashes = [self.check(maker(seed)) for maker in MAKERS for seed in range(40) if still(maker(seed)) is None]
        self.assertGreater(clashes.count(True), 30)
        self.assertGreater(clashes.count(False), 30)

    def test_fill(self):
        self.assertIsNone(clash(FILL))
        self.assertIsNone(clash(net=FILL))
        self.assertIsNone(clash(Net()))

    def test_different_rounds(self):
        """The write may be one round ahead of the read that should see the write before it."""
        net = Net(
            X, Signal("full"), Signal("empty", 2),
            Agent("dev", ("wait", "empty"), ("write", "x", 0, 0, 1), ("post", "full")),
            Back("cpu", ("wait", "full"), ("read", "x", 0, 0, 1), ("post", "empty")))
        one, n, other, m = clash(net)
        self.assertEqual((one, other, m - n), ((0, 1), (1, 1), -1))
        self.assertTrue(self.check(net))
        # With a slot for each of both rounds there is none.
        slots = [Variable("x", 4, 0, 4), *net.signals, *net.agents]
        self.assertIsNone(clash(Net(*slots, ring=2)))

    def test_whole_rings(self):
        """Only instances that are a whole ring apart are in one slot."""
        for ring in (2, 3, 4):
            slots = Variable("x", 1, *range(ring))
            agents = (Agent("a", ("write", "x", 1, 0, 0), ("post", "s"), ("wait", "t")),
                      Agent("b", ("wait", "s"), ("read", "x", 0, 0, 0), ("post", "t")))
            tokens = min(3, ring - 1)
            net = Net(slots, Signal("s"), Signal("t", tokens), *agents, ring=ring)
            self.assertIs(self.check(net), True)
            one, n, other, m = clash(net)
            self.assertEqual((n + 1 - m) % ring, 0)

    def test_unordered_agents(self):
        for ring in (1, 2, 3, 4):
            slots = Variable("x", 1, *range(ring))
            for shift in range(4):
                agents = Agent("a", ("write", "x", shift, 0, 0)), Back("b", ("get", "x", 0, 0, 0))
                self.assertTrue(self.check(Net(slots, *agents, ring=ring)))

    def test_ordered_in_one_direction(self):
        """Whoever posts does not wait for the other one: it may be any number of rounds ahead, but never behind."""
        for ring in (1, 2, 3):
            slots = Variable("x", 1, *range(ring))
            for tokens in (0, 1, 3):
                for shift in (0, 1):
                    posts = Agent("a", ("write", "x", shift, 0, 0), ("post", "s"))
                    waits = Agent("b", ("wait", "s"), ("read", "x", 0, 0, 0))
                    net = Net(slots, Signal("s", tokens), posts, waits, ring=ring)
                    self.assertIs(self.check(net), True)
                    self.assertIs(self.check(net.with_agents(waits, posts)), True)

    def test_words(self):
        kinds = {"read": "read", "get": "read", "write": "write", "put": "write"}
        for one in kinds:
            for other in kinds:
                net = Net(X, Back("a", (one, "x", 0, 0, 1)), Back("b", (other, "x", 0, 1, 2)))
                self.assertIs(self.check(net), "write" in (kinds[one], kinds[other]))
                apart = Net(X, Back("a", (one, "x", 0, 0, 1)), Back("b", (other, "x", 0, 2, 2)))
                self.assertIsNone(clash(apart))
                others = Net(X, Variable("y", 4, 4), Back("a", (one, "x", 0, 0, 1)), Back("b", (other, "y", 0, 0, 1)))
                self.assertIsNone(clash(others))
                self.assertIsNone(clash(Net(X, Back("a", (one, "x", 0, 0, 1), (other, "x", 0, 0, 1)))))
        for upkeep in ("clean", "drop", "flush"):
            self.assertIsNone(clash(Net(X, Back("a", (upkeep, "x", 0, 0, 1)), Back("b", ("write", "x", 0, 1, 2)))))

    def test_slots_apart(self):
        """Both agents write at the same time, one slot apart, or two."""
        for ring in (2, 3):
            net = Net(Variable("x", 1, *range(ring)), Signal("s"), Signal("t"),
                      Agent("a", WRITE, ("post", "t"), ("wait", "s")),
                      Agent("b", ("write", "x", 1, 0, 0), ("post", "s"), ("wait", "t")), ring=ring)
            self.assertIs(self.check(net), False)
            self.assertIs(self.check(net.with_agents(net.agents[0], Agent("b", WRITE, *net.agents[1].steps[1:]))), True)

    def test_stands(self):
        with self.assertRaises(Stands) as caught:
            clash(STANDS)
        ring = caught.exception.ring
        self.assertEqual((ring[0], sum_of(STANDS, ring)), (ring[-1], 0))


if __name__ == "__main__":
    unittest.main()

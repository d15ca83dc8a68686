"""[12], [13], [14], [15]: neighbours, sums, lags, ways and standstill."""

import copy
import unittest

from helpers import ANY, FILL, Case
from nets_by_seed import all_lags, net_by_seed, pairs_of
from unkeptlines.agents import Agent
from unkeptlines.errors import NoWay
from unkeptlines.lags import Lag
from unkeptlines.nets import Net
from unkeptlines.signals import Signal
from unkeptlines.variables import Variable
from unkeptlines.ways import lag, neighbours, still, sum_of, way

X = Variable("x", 1, 0)
READ = ("read", "x", 0, 0, 0)
SEEDS = range(120)


def alone(tokens, *steps):
    """A net of one agent and one signal."""
    return Net(X, Signal("s", tokens), Agent("a", *steps))


# Two agents that wait for each other, and one that goes on by itself and posts to them.
STANDS = Net(
    X, Signal("s"), Signal("t"), Signal("u", 2),
    Agent("a", ("wait", "s"), ("post", "t"), ("wait", "u")), Agent("b", ("wait", "t"), ("post", "s")),
    Agent("c", READ, ("post", "u")))


class Neighbours(Case):
    def test_fill(self):
        told = {(0, 0): [((0, 1), 0)], (0, 1): [((0, 2), 0)], (0, 2): [((0, 0), 1), ((1, 0), 0)],
                (1, 0): [((1, 1), 0)], (1, 1): [((1, 2), 0)], (1, 2): [((0, 0), 1), ((1, 0), 1)]}
        for place, pairs in told.items():
            self.assertEqual(neighbours(FILL, place), pairs)
            self.assertEqual(neighbours(net=FILL, place=place), pairs)
            self.assertIs(type(neighbours(FILL, place)), list)
            self.assertIs(type(neighbours(FILL, place)[0]), tuple)

    def test_an_agent_of_one_step(self):
        net = Net(X, Agent("a", READ))
        self.assertEqual(neighbours(net, (0, 0)), [((0, 0), 1)])

    def test_post_and_wait_side_by_side(self):
        for tokens in range(4):
            self.assertEqual(neighbours(alone(tokens, ("post", "s"), ("wait", "s")), (0, 0)), [((0, 1), 0)])
            self.assertEqual(neighbours(alone(tokens, ("wait", "s"), ("post", "s")), (0, 1)),
                             [((0, 0), min(1, tokens))])
            self.assertEqual(neighbours(alone(tokens, ("wait", "s"), ("post", "s")), (0, 0)), [((0, 1), 0)])
            self.assertEqual(neighbours(alone(tokens, ("post", "s"), READ, ("wait", "s")), (0, 0)),
                             [((0, 1), 0), ((0, 2), tokens)])
            self.assertEqual(neighbours(alone(tokens, ("wait", "s"), ("post", "s"), READ), (0, 1)),
                             [((0, 0), tokens), ((0, 2), 0)])
            self.assertEqual(neighbours(alone(tokens, READ, ("wait", "s"), ("post", "s")), (0, 2)),
                             [((0, 0), 1), ((0, 1), tokens)])

    def test_ascending(self):
        net = Net(X, Signal("s", 3), Signal("t"), Agent("a", ("wait", "t"), ("wait", "s")),
                  Agent("b", ("post", "s"), ("post", "t")))
        self.assertEqual(neighbours(net, (1, 0)), [((0, 1), 3), ((1, 1), 0)])
        self.assertEqual(neighbours(net, (1, 1)), [((0, 0), 0), ((1, 0), 1)])

    def test_by_seed(self):
        for seed in SEEDS:
            net = net_by_seed(seed)
            for place in net.places():
                least = {}
                for one, other, more in pairs_of(net):
                    if one == place:
                        least[other] = min(more, least.get(other, more))
                self.assertEqual(neighbours(net, place), sorted(least.items()), seed)

    def test_the_list_is_new(self):
        pairs = neighbours(FILL, (0, 2))
        pairs.clear()
        pairs.append("more")
        self.assertEqual(neighbours(FILL, (0, 2)), [((0, 0), 1), ((1, 0), 0)])
        self.assertEqual(lag(FILL, (0, 2), (1, 0)), Lag(0))


class Sums(Case):
    def test_sums(self):
        for row, total in (
                (((0, 1), (0, 2), (1, 0), (1, 1)), 0), (((0, 2), (0, 0)), 1), (((1, 2), (0, 0)), 1),
                (((0, 0), (0, 1), (0, 2), (0, 0), (0, 1), (0, 2), (0, 0)), 2),
                (((0, 2), (1, 0), (1, 1), (1, 2), (0, 0), (0, 1), (0, 2), (1, 0)), 1)):
            self.assertEqual(sum_of(FILL, row), total)
            self.assertEqual(sum_of(net=FILL, way=row), total)
        self.assertEqual(sum_of(Net(X, Agent("a", READ)), ((0, 0), (0, 0), (0, 0))), 2)
        self.assertEqual(sum_of(alone(3, ("post", "s"), ("wait", "s")), ((0, 0), (0, 1))), 0)
        self.assertEqual(sum_of(alone(3, ("post", "s"), READ, ("wait", "s")), ((0, 0), (0, 2))), 3)
        self.assertEqual(sum_of(alone(0, ("wait", "s"), ("post", "s")), ((0, 1), (0, 0))), 0)
        self.assertEqual(sum_of(FILL, ((0, 0), (0, 1), (0, 2)) * 300), 299)

    def test_no_way(self):
        for row, k in (
                (((0, 0), (0, 2)), 1), (((0, 0), (0, 0)), 1), (((0, 1), (0, 0)), 1), (((0, 2), (1, 1)), 1),
                (((1, 0), (0, 2)), 1), (((0, 3), (0, 0)), 0), (((2, 0), (0, 0)), 0), (((-1, 0), (0, 0)), 0),
                (((0, 0), (0, 1), (0, 3)), 2), (((0, 0), (0, 1), (0, 2), (0, 1), (9, 9)), 3), (((0, 2), (0, -3)), 1),
                (((0, 0), (0, 2), (9, 9)), 1), (((9, 9), (9, 9)), 0)):
            self.raises(NoWay, {"place": k}, sum_of, FILL, row)

    def test_fewer_than_two_places(self):
        for row in ((), ((0, 0),), ((9, 9),), ((0, -1),)):
            self.raises(NoWay, {"place": 0}, sum_of, FILL, row)
            self.raises(NoWay, {"place": 0}, sum_of, Net(), row)

    def test_places_of_other_kinds(self):
        for place in ANY:
            if place != (0, 0):
                self.raises(NoWay, {"place": 0}, sum_of, FILL, (place, (0, 1)))
                self.raises(NoWay, {"place": 1}, sum_of, FILL, ((0, 0), place))
                self.raises(NoWay, {"place": 2}, sum_of, FILL, ((0, 0), (0, 1), place, place))
        for place in ((0, True), (False, 1), [0, 1]):
            self.raises(NoWay, {"place": 1}, sum_of, FILL, ((0, 0), place))

    def test_ways_of_other_kinds(self):
        for row in ANY:
            before = copy.deepcopy(row)
            self.raises(NoWay, {"place": 0}, sum_of, FILL, row)
            self.assertEqual(row, before)


class LagsAndWays(Case):
    def test_fill(self):
        self.assertEqual(lag(FILL, (0, 1), (1, 1)), Lag(0))
        self.assertEqual(way(FILL, (0, 1), (1, 1)), ((0, 1), (0, 2), (1, 0), (1, 1)))
        self.assertEqual(lag(FILL, (1, 1), (0, 1)), Lag(1))
        self.assertEqual(lag(net=FILL, one=(1, 1), other=(0, 1)).rounds, 1)
        self.assertEqual(way(net=FILL, one=(1, 1), other=(0, 1)), ((1, 1), (1, 2), (0, 0), (0, 1)))
        self.assertIs(type(lag(FILL, (0, 1), (1, 1))), Lag)

    def test_a_place_on_itself(self):
        for place in FILL.places():
            self.assertEqual(lag(FILL, place, place), Lag(1))
            row = way(FILL, place, place)
            self.assertGreaterEqual(len(row), 2)
            self.assertEqual((row[0], row[-1], sum_of(FILL, row)), (place, place, 1))
        net = Net(X, Agent("a", READ))
        self.assertEqual(lag(net, (0, 0), (0, 0)), Lag(1))
        self.assertEqual(way(net, (0, 0), (0, 0)), ((0, 0), (0, 0)))

    def test_no_way(self):
        net = Net(X, Signal("s", 2), Agent("a", READ, ("post", "s")), Agent("b", ("wait", "s")), Agent("c", READ))
        for one, other in (((1, 0), (0, 0)), ((1, 0), (0, 1)), ((0, 0), (2, 0)), ((2, 0), (0, 0)), ((2, 0), (1, 0))):
            self.assertEqual(lag(net, one, other), Lag.none())
            self.assertIs(lag(net, one, other).rounds, None)
            self.assertIs(way(net, one, other), None)
        self.assertEqual(lag(net, (0, 0), (1, 0)), Lag(2))
        self.assertEqual(way(net, (0, 0), (1, 0)), ((0, 0), (0, 1), (1, 0)))

    def test_standing_nets_are_answered(self):
        self.assertEqual(lag(STANDS, (0, 0), (0, 0)), Lag(0))
        self.assertEqual(sum_of(STANDS, way(STANDS, (0, 1), (0, 0))), 0)
        self.assertEqual(lag(STANDS, (0, 1), (0, 0)), Lag(0))
        self.assertEqual(lag(STANDS, (0, 2), (0, 0)), Lag(1))
        self.assertEqual(lag(STANDS, (2, 1), (0, 0)), Lag(3))
        self.assertEqual(lag(STANDS, (2, 0), (1, 1)), Lag(3))
        self.assertEqual(lag(STANDS, (0, 0), (2, 0)), Lag.none())

    def test_the_lesser_sum(self):
        net = Net(X, Signal("s", 3), Signal("t", 1), Signal("u", 1),
                  Agent("a", ("post", "s"), ("post", "t")), Agent("b", ("wait", "t"), ("post", "u")),
                  Agent("c", ("wait", "s"), ("wait", "u")))
        self.assertEqual(lag(net, (0, 0), (2, 0)), Lag(3))
        self.assertEqual(lag(net, (0, 0), (2, 1)), Lag(2))
        self.assertEqual(way(net, (0, 0), (2, 1)), ((0, 0), (0, 1), (1, 0), (1, 1), (2, 1)))
        self.assertEqual(way(net, (0, 0), (2, 0)), ((0, 0), (2, 0)))

    def test_the_greatest_lag(self):
        signals = [Signal("s", 3), Signal("t", 3), Signal("u", 3)]
        net = Net(X, *signals, Agent("a", ("post", "s"), READ), Agent("b", ("post", "t"), ("wait", "s")),
                  Agent("c", ("post", "u"), ("wait", "t")), Agent("d", READ, ("wait", "u")))
        self.assertEqual(lag(net, (0, 1), (3, 0)), Lag(13))
        self.assertEqual(sum_of(net, way(net, (0, 1), (3, 0))), 13)

    def test_by_seed(self):
        for seed in SEEDS:
            net = net_by_seed(seed)
            least = all_lags(net)
            for one in net.places():
                for other in net.places():
                    rounds = least.get((one, other))
                    self.assertEqual(lag(net, one, other).rounds, rounds, (seed, one, other))
                    row = way(net, one, other)
                    if rounds is None:
                        self.assertIs(row, None)
                    else:
                        self.assertIs(type(row), tuple)
                        self.assertEqual((row[0], row[-1], sum_of(net, row)), (one, other, rounds), (seed, row))


class Standstill(Case):
    def is_ring(self, net, ring):
        self.assertIs(type(ring), tuple)
        self.assertEqual(ring[0], ring[-1])
        self.assertEqual(sum_of(net, ring), 0)

    def test_none(self):
        for net in (Net(), FILL, Net(X, Agent("a", READ)), alone(1, ("wait", "s"), ("post", "s")),
                    alone(0, ("post", "s"), ("wait", "s"))):
            self.assertIs(still(net), None)

    def test_some(self):
        self.is_ring(STANDS, still(STANDS))
        self.is_ring(STANDS, still(net=STANDS))
        for net in (alone(0, ("wait", "s"), ("post", "s")), alone(0, READ, ("wait", "s"), READ, ("post", "s"), READ)):
            self.is_ring(net, still(net))

    def test_tokens_help(self):
        for one in range(3):
            for other in range(3):
                net = Net(Signal("s", one), Signal("t", other), Agent("a", ("wait", "s"), ("post", "t")),
                          Agent("b", ("wait", "t"), ("post", "s")))
                if one + other == 0:
                    self.is_ring(net, still(net))
                else:
                    self.assertIs(still(net), None)

    def test_by_seed(self):
        told = []
        for seed in SEEDS:
            net = net_by_seed(seed)
            least = all_lags(net)
            stands = 0 in [least[place, place] for place in net.places()]
            if stands:
                self.is_ring(net, still(net))
            else:
                self.assertIs(still(net), None, seed)
            told.append(stands)
        self.assertGreater(told.count(True), 20)
        self.assertGreater(told.count(False), 20)


if __name__ == "__main__":
    unittest.main()

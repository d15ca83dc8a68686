"""[16]: Order and Known."""

import copy
import unittest

from helpers import ANY, FILL, Case
from nets_by_seed import all_lags, goes_without, net_by_seed
from unkeptlines.agents import Agent
from unkeptlines.errors import NoWay, Stands
from unkeptlines.lags import Lag
from unkeptlines.nets import Net
from unkeptlines.orders import Known, Order
from unkeptlines.signals import Signal
from unkeptlines.variables import Variable
from unkeptlines.ways import lag, still, sum_of, way

X = Variable("x", 1, 0)
READ = ("read", "x", 0, 0, 0)
SEEDS = range(60)
ROUNDS = range(-3, 4)
THERE = ((0, 1), (0, 2), (1, 0), (1, 1))
HERE = ((1, 2), (0, 0))

STANDS = Net(
    X, Signal("s"), Signal("t"), Signal("u", 2),
    Agent("a", ("wait", "s"), ("post", "t"), ("wait", "u")), Agent("b", ("wait", "t"), ("post", "s")),
    Agent("c", READ, ("post", "u")))

# a to b to c, and b back to a.
CHAIN = Net(
    X, Signal("s"), Signal("t", 1), Signal("u", 2),
    Agent("a", READ, ("post", "s"), ("wait", "u")), Agent("b", ("wait", "s"), ("post", "t"), ("post", "u")),
    Agent("c", READ, ("wait", "t"), READ))


class Orders(Case):
    def test_fill(self):
        order = Order(FILL)
        for n in ROUNDS:
            for m in ROUNDS:
                self.assertIs(order.ahead((0, 1), n, (1, 1), m), m >= n)
                self.assertIs(order.ahead((1, 1), n, (0, 1), m), m > n)
                self.assertIs(order.ahead((0, 1), n, (0, 1), m), m > n)
                self.assertIs(order.ahead((0, 0), n, (0, 2), m), m >= n)
                self.assertIs(order.ahead((0, 2), n, (0, 0), m), m > n)
        self.assertIs(order.ahead(one=(0, 1), n=0, other=(1, 1), m=0), True)
        self.assertEqual(order.lag(one=(1, 1), other=(0, 1)), Lag(1))

    def test_lags(self):
        for net in (FILL, CHAIN):
            order = Order(net)
            for one in net.places():
                for other in net.places():
                    self.assertIs(type(order.lag(one, other)), Lag)
                    self.assertEqual(order.lag(one, other), lag(net, one, other))

    def test_no_way(self):
        order = Order(CHAIN)
        self.assertIs(order.lag((2, 0), (0, 0)).rounds, None)
        for m in (0, 1, 1000):
            self.assertIs(order.ahead((2, 0), 0, (0, 0), m), False)
            self.assertIs(order.ahead((2, 0), -1000, (0, 0), m), False)

    def test_stands(self):
        with self.assertRaises(Stands) as caught:
            Order(STANDS)
        ring = caught.exception.ring
        self.assertEqual((ring[0], sum_of(STANDS, ring)), (ring[-1], 0))
        with self.assertRaises(Stands):
            Order(Net(Signal("s"), Agent("a", ("wait", "s"), ("post", "s"))))
        Order(net=Net())

    def test_by_seed(self):
        for seed in SEEDS:
            net = net_by_seed(seed)
            if still(net) is not None:
                with self.assertRaises(Stands) as caught:
                    Order(net)
                ring = caught.exception.ring
                self.assertEqual((ring[0], sum_of(net, ring)), (ring[-1], 0))
                continue
            order, least = Order(net), all_lags(net)
            for one in net.places():
                for other in net.places():
                    rounds = least.get((one, other))
                    self.assertEqual(order.lag(one, other).rounds, rounds)
                    for n in ROUNDS:
                        for m in ROUNDS:
                            told = rounds is not None and m - n >= rounds
                            self.assertIs(order.ahead(one, n, other, m), told)

    def test_runs(self):
        """An instance is ahead exactly if the other one is never done as long as it is not done itself."""
        for seed in SEEDS:
            net = net_by_seed(seed)
            if still(net) is not None:
                continue
            order = Order(net)
            for one in net.places():
                done = goes_without(net, one, 2, 20)
                for other in net.places():
                    for m in range(6):
                        if (one, 2) != (other, m):
                            self.assertIs(order.ahead(one, 2, other, m), (other, m) not in done, (seed, one, other, m))
                        else:
                            self.assertIs(order.ahead(one, 2, other, m), False)

    def test_asking_changes_nothing(self):
        order = Order(CHAIN)
        before = [order.lag(one, other).rounds for one in CHAIN.places() for other in CHAIN.places()]
        for one in CHAIN.places():
            for other in CHAIN.places():
                order.ahead(one, 3, other, -3)
                order.lag(one, other) + Lag(1)
        self.assertEqual(before, [order.lag(one, other).rounds for one in CHAIN.places() for other in CHAIN.places()])
        self.assertEqual(list(CHAIN.places()), list(copy.deepcopy(CHAIN).places()))


def known_ahead(ends, one, n, other, m):
    """[16], word by word; ends has the first place, the last place and the sum of each way."""
    if one[0] == other[0]:
        return (n, one[1]) < (m, other[1])
    for (f, first), (t, last), total in ends:
        if f == one[0] and t == other[0]:
            k = min(k for k in range(n - 2, n + 3) if (k, first) >= (n, one[1]))
            if (m, other[1]) >= (k + total, last):
                return True
    return False


class Knowns(Case):
    def compare(self, net, ways):
        known = Known(net, *ways)
        ends = [(row[0], row[-1], sum_of(net, row)) for row in ways]
        for one in net.places():
            for other in net.places():
                found = [m for m in range(40) if known_ahead(ends, one, 0, other, m)]
                self.assertIs(type(known.lag(one, other)), Lag)
                self.assertEqual(known.lag(one, other).rounds, found[0] if found else None, (ways, one, other))
                for n in ROUNDS:
                    for m in ROUNDS:
                        told = known_ahead(ends, one, n, other, m)
                        self.assertIs(known.ahead(one, n, other, m), told, (ways, one, n, other, m))

    def test_nothing_known(self):
        self.compare(FILL, [])
        known = Known(FILL)
        self.assertIs(known.ahead((0, 1), 0, (1, 1), 1000), False)
        self.assertIs(known.ahead((0, 1), 0, (0, 2), 0), True)
        self.assertIs(known.ahead((0, 1), 0, (0, 1), 0), False)
        self.assertEqual(known.lag((0, 1), (1, 1)), Lag.none())
        self.assertEqual(known.lag((0, 1), (0, 1)), Lag(1))
        self.assertEqual(known.lag((0, 1), (0, 0)), Lag(1))
        self.assertEqual(known.lag((0, 1), (0, 2)), Lag(0))

    def test_fill(self):
        known = Known(FILL, THERE)
        self.assertEqual(known.lag((0, 1), (1, 1)), Lag(0))
        self.assertEqual(known.lag((0, 0), (1, 2)), Lag(0))
        self.assertEqual(known.lag((0, 2), (1, 1)), Lag(1))
        self.assertEqual(known.lag((0, 2), (1, 0)), Lag(2))
        self.assertEqual(known.lag((0, 1), (1, 0)), Lag(1))
        self.assertEqual(known.lag((1, 1), (0, 1)), Lag.none())
        self.assertIs(known.ahead(one=(0, 1), n=-5, other=(1, 1), m=-5), True)
        self.assertIs(known.ahead((0, 1), -5, (1, 1), -6), False)
        self.assertEqual(known.lag(one=(0, 1), other=(1, 1)), Lag(0))
        for ways in ([THERE], [HERE], [THERE, HERE], [HERE, THERE, THERE, HERE]):
            self.compare(FILL, ways)

    def test_several_ways(self):
        longer = ((0, 2), (0, 0), (0, 1), (0, 2), (1, 0), (1, 1), (1, 2), (1, 0))
        for ways in ([longer], [longer, THERE], [THERE, longer], [THERE, THERE], [longer, HERE, longer]):
            self.compare(FILL, ways)

    def test_ways_are_not_put_together(self):
        known = Known(CHAIN, ((0, 1), (1, 0)), ((1, 1), (2, 1)))
        self.assertEqual(known.lag((0, 0), (1, 0)), Lag(0))
        self.assertEqual(known.lag((1, 0), (2, 1)), Lag(1))
        self.assertEqual(known.lag((0, 0), (2, 1)), Lag.none())
        self.assertIs(known.ahead((0, 0), 0, (2, 2), 1000), False)
        self.compare(CHAIN, [((0, 1), (1, 0)), ((1, 1), (2, 1))])

    def test_through_several_agents(self):
        through = ((0, 1), (1, 0), (1, 1), (2, 1))
        around = ((0, 1), (1, 0), (1, 1), (1, 2), (0, 2), (0, 0), (0, 1), (1, 0), (1, 1), (2, 1), (2, 2))
        self.assertEqual(Known(CHAIN, through).lag((0, 0), (2, 2)), Lag(1))
        self.assertEqual(Known(CHAIN, through).lag((0, 1), (1, 1)), Lag.none())
        for ways in ([through], [around], [around, through], [through, ((1, 2), (0, 2)), around]):
            self.compare(CHAIN, ways)

    def test_within_one_agent(self):
        for k, ways in enumerate((
                [((0, 0), (0, 1))], [THERE, ((0, 2), (0, 0))], [THERE, HERE, ((1, 0), (1, 1), (1, 2), (0, 0), (0, 1), (
                    0, 2), (1, 0))])):
            self.raises(NoWay, {"place": k}, Known, FILL, *ways)
            self.raises(NoWay, {"place": k}, Known.made, FILL, ways)
        back = ((0, 1), (1, 0), (1, 1), (1, 2), (0, 2))
        self.raises(NoWay, {"place": 1}, Known, CHAIN, ((0, 1), (1, 0)), back, back)

    def test_no_ways(self):
        bad = ANY + [list(THERE), [THERE], (THERE,), THERE[:1], (), ((0, 1), (1, 0)), ((0, 2), (1, 0), (1, 2)),
                     ((0, True), (0, 2), (1, 0)), ([0, 2], [1, 0]), ((0, 2), (1, 0), None), ((0, 2), (True, 0))]
        for row in bad:
            before = copy.deepcopy(row)
            self.raises(NoWay, {"place": 0}, Known, FILL, row)
            self.raises(NoWay, {"place": 0}, Known, FILL, row, row)
            self.raises(NoWay, {"place": 2}, Known, FILL, THERE, HERE, row, THERE)
            self.raises(NoWay, {"place": 2}, Known.made, FILL, (THERE, HERE, row, None))
            self.assertEqual(row, before)

    def test_made(self):
        for ways in ((THERE, HERE), [THERE, HERE]):
            known = Known.made(FILL, ways)
            self.assertIs(type(known), Known)
            self.assertEqual(known.lag((1, 1), (0, 1)), Lag(1))
        self.assertEqual(Known.made(net=FILL, ways=[]).lag((0, 1), (1, 1)), Lag.none())

    def test_made_keeps_nothing_of_a_list(self):
        ways = [THERE]
        known = Known.made(FILL, ways)
        self.assertEqual(ways, [THERE])
        ways[0] = HERE
        ways.append(HERE)
        self.assertEqual(known.lag((0, 1), (1, 1)), Lag(0))
        self.assertEqual(known.lag((1, 1), (0, 1)), Lag.none())

    def test_standing_nets(self):
        self.compare(STANDS, [])
        self.compare(STANDS, [((0, 1), (1, 0)), ((1, 1), (0, 0)), ((2, 1), (0, 2), (0, 0), (0, 1), (1, 0))])
        known = Known.of(STANDS)
        self.assertEqual(known.lag((0, 0), (1, 1)), Lag(0))
        self.assertEqual(known.lag((1, 1), (0, 0)), Lag(0))
        self.assertEqual(known.lag((2, 0), (0, 0)), Lag(3))
        self.assertEqual(known.lag((0, 0), (0, 0)), Lag(1))
        self.assertEqual(known.lag((0, 0), (2, 0)), Lag.none())

    def test_of_is_a_known_with_least_ways(self):
        for net in (FILL, CHAIN, STANDS, Net(), *[net_by_seed(seed) for seed in SEEDS]):
            posts = [place for place in net.places() if net.step(place)[0] == "post"]
            waits = [place for place in net.places() if net.step(place)[0] == "wait"]
            ways = [way(net, post, wait) for post in posts for wait in waits if post[0] != wait[0]]
            known, other = Known.of(net), Known(net, *[row for row in ways if row is not None])
            self.assertIs(type(known), Known)
            for one in net.places():
                for two in net.places():
                    self.assertEqual(known.lag(one, two), other.lag(one, two))

    def test_of_knows_what_order_tells(self):
        for net in (FILL, CHAIN, *[net_by_seed(seed) for seed in SEEDS]):
            if still(net) is None:
                known, order = Known.of(net), Order(net)
                for one in net.places():
                    for other in net.places():
                        self.assertEqual(known.lag(one, other), order.lag(one, other))
                        for n in (-2, 0, 1):
                            for m in ROUNDS:
                                self.assertIs(known.ahead(one, n, other, m), order.ahead(one, n, other, m))

    def test_by_seed(self):
        for seed in range(25):
            net = net_by_seed(seed)
            rows = [way(net, one, other) for one in net.places() for other in net.places() if one[0] != other[0]]
            self.compare(net, [row for row in rows if row is not None][seed % 3::7])


if __name__ == "__main__":
    unittest.main()

"""[37]: laid and pads."""

import copy
import unittest

from drawn_nets import MANNERS, large_net, net_at_random, net_in_pairs, net_in_turn
from helpers import FILL, Case
from test_thirds import N, plain_thirds
from unkeptlines.agents import Agent, Back
from unkeptlines.clashes import clash
from unkeptlines.errors import Clashes, NoLaying, Stands, TooMany
from unkeptlines.flushes import mended
from unkeptlines.judging import is_right
from unkeptlines.laying import laid, pads
from unkeptlines.nets import Net
from unkeptlines.signals import Signal
from unkeptlines.thirds import thirds
from unkeptlines.variables import Variable
from unkeptlines.ways import still

MAKERS = (net_in_turn, net_at_random, net_in_pairs)
S = Net(Variable("s", 2, 0), Signal("full"), Signal("empty", 1),
        Agent("n", ("wait", "empty"), ("write", "s", 0, 0, 0), ("post", "full")),
        Back("c", ("wait", "full"), ("read", "s", 0, 0, 0), ("post", "empty")), Back("e", ("write", "s", 0, 1, 1)), line=2)
THREE = Net(Variable("s", 3, 0), Signal("full"), Signal("empty", 1),
            Agent("n", ("wait", "empty"), ("write", "s", 0, 1, 1), ("post", "full")),
            Back("c", ("wait", "full"), ("read", "s", 0, 1, 1), ("post", "empty")),
            Back("e", ("write", "s", 0, 0, 0), ("write", "s", 0, 2, 2)), line=2)


def plain_laid(net):
    """The addresses of all slots by a plain search; or (name, slot) of the slot that no address helps."""
    pairs = {frozenset(row[4:]) for row in plain_thirds(net, line=2048)}
    placed, end, rows = {}, 0, []
    for variable in net.variables:
        at = []
        for slot, old in enumerate(variable.at):
            for address in range(end, 1024):
                now = {**placed, **{old + k: address + k for k in range(variable.size)}}
                if not any(frozenset((one, other)) in pairs and now[one] // net.line == now[other] // net.line
                           for one in range(old, old + variable.size) for other in now):
                    break
            else:
                return (variable.name, slot)
            placed, end = now, address + variable.size
            at.append(address)
        rows.append(tuple(at))
    return rows


def addresses(net):
    return [variable.at for variable in net.variables]


class Laid(Case):
    def test_examples(self):
        told = laid(N)
        self.assertEqual((addresses(told), pads(told), pads(N)), ([(0,), (4,)], 3, 0))
        self.assertEqual(mended(told), told)
        self.assertIs(is_right(told), True)
        told = laid(net=S)
        self.assertEqual((addresses(told), pads(net=told)), ([(1,)], 1))
        self.assertEqual(told.lines((0, 1), 0), (0,))
        self.assertEqual(told.lines((2, 0), 0), (1,))
        self.raises(NoLaying, {"variable": "s", "slot": 0}, laid, THREE)
        self.assertEqual(addresses(laid(THREE.with_line(1))), [(0,)])

    def test_by_plain_search(self):
        padded = []
        for maker, seeds in zip(MAKERS, (30, 40, 120)):
            for seed in range(seeds):
                net = maker(seed)
                if still(net) is None and clash(net) is None:
                    for line in (2, 4, 16):
                        padded.append(self.check(net.with_line(line)))
        self.assertGreater(padded.count(0), 100)
        self.assertGreater(len(padded) - padded.count(0), 20)
        for net in (N, S, THREE):
            for line in Net.LINES:
                self.check(net.with_line(line))

    def check(self, net):
        """Lays a net, by a plain search too; the number of pads."""
        plain = plain_laid(net)
        if isinstance(plain, tuple):
            self.raises(NoLaying, {"variable": plain[0], "slot": plain[1]}, laid, net)
            return 0
        told = laid(net)
        self.assertEqual(addresses(told), plain)
        self.assertEqual(list(thirds(told)), [])
        return pads(told)

    def test_everything_else_is_the_same(self):
        for seed in range(40):
            net = net_in_pairs(seed)
            if still(net) is None and clash(net) is None:
                try:
                    told = laid(net)
                except NoLaying:
                    continue
                self.assertEqual((told.line, told.ring, told.signals, told.agents),
                                 (net.line, net.ring, net.signals, net.agents))
                self.assertEqual([(one.name, one.size, len(one)) for one in told.variables],
                                 [(one.name, one.size, len(one)) for one in net.variables])

    def test_slots_lie_one_after_another(self):
        net = Net(Variable("b", 3, 100, 50), Variable("a", 2, 30), Variable("c", 8, 1000, 0), line=1, ring=2)
        self.assertEqual(addresses(laid(net)), [(0, 3), (6,), (8, 16)])
        self.assertEqual(pads(laid(net)), 0)
        self.assertEqual(pads(net), 1008 - 6 - 2 - 16)

    def test_it_does_not_depend_on_the_addresses(self):
        """The same variables elsewhere are laid at the same addresses."""
        seen = 0
        for seed in range(60):
            net = net_in_pairs(seed)
            if still(net) is None and clash(net) is None:
                slots, address = [], 600
                for one in net.variables[::-1]:
                    at = []
                    for _ in one.at:
                        at.append(address)
                        address += one.size + 3
                    slots.append(Variable(one.name, one.size, *at[::-1]))
                other = Net(*slots[::-1], *net.signals, *net.agents, line=net.line, ring=net.ring)
                try:
                    told = laid(net)
                except NoLaying as error:
                    self.raises(NoLaying, {"variable": error.variable, "slot": error.slot}, laid, other)
                    continue
                self.assertEqual(laid(other), told)
                seen += pads(told) > 0
        self.assertGreater(seen, 5)

    def test_bytes_of_one_slot(self):
        """Each line size: the two bytes part at the last address of a line."""
        for line, address in ((1, 0), (2, 1), (4, 3), (8, 7), (16, 15)):
            told = laid(S.with_line(line))
            self.assertEqual((addresses(told), pads(told)), ([(address,)], address))
        # Behind another slot the next such address is taken.
        before = Net(Variable("o", 2, 8), *S.variables, *S.signals, *S.agents, line=2)
        self.assertEqual(addresses(laid(before)), [(0,), (3,)])

    def test_the_slot_that_no_address_helps(self):
        """The name and the number of the first such slot, behind others that are laid."""
        self.raises(NoLaying, {"variable": "s", "slot": 0}, laid, THREE)
        for line in (4, 8, 16):
            self.raises(NoLaying, {"variable": "s", "slot": 0}, laid, THREE.with_line(line))
        x, y = Variable("x", 2, 0), Variable("s", 3, 16, 32)
        agents = [agent.with_steps(*[step[:2] + (1,) + step[3:] if len(step) == 5 else step for step in agent.steps])
                  for agent in THREE.agents]
        net = Net(x, y, *THREE.signals, *agents, line=2, ring=2)
        with self.assertRaises(NoLaying) as caught:
            laid(net)
        self.assertEqual((caught.exception.variable, caught.exception.slot), ("s", 0))
        first = Net(Variable("z", 1, 40), Variable("s", 3, 0), Variable("t", 3, 8), Signal("full"), Signal("empty", 1), *[
            agent.with_steps(*[step[:1] + ("t",) + step[2:] if len(step) == 5 else step for step in agent.steps])
            for agent in THREE.agents], line=2)
        self.raises(NoLaying, {"variable": "t", "slot": 0}, laid, first)

    def test_a_line_that_many_share(self):
        """Bytes that must part from one byte may share a line among themselves."""
        net = Net(Variable("a", 1, 0), Variable("d", 1, 1), Variable("e", 1, 2), Variable("f", 1, 3), Signal("s"),
                  Signal("t", 1), Agent("n", ("wait", "t"), ("write", "a", 0, 0, 0), ("post", "s")),
                  Agent("c", ("wait", "s"), ("read", "a", 0, 0, 0), ("post", "t")),
                  Back("o", ("write", "d", 0, 0, 0), ("write", "f", 0, 0, 0)), line=4)
        self.assertEqual(addresses(laid(net)), [(0,), (4,), (5,), (6,)])
        turned = Net(*net.variables[::-1], *net.signals, *net.agents, line=4)
        self.assertEqual(addresses(laid(turned)), [(0,), (1,), (2,), (4,)])

    def test_mended_afterwards(self):
        seen = 0
        for seed in range(60):
            net = net_in_pairs(seed)
            if still(net) is None and clash(net) is None and list(thirds(net)):
                try:
                    told = mended(laid(net))
                except (NoLaying, TooMany):
                    continue
                self.assertIs(is_right(told), True)
                seen += 1
        self.assertGreater(seen, 5)

    def test_large_nets(self):
        seen = 0
        for seed in range(30):
            net = large_net(seed)
            if still(net) is None and clash(net) is None:
                try:
                    told = laid(net)
                except NoLaying:
                    continue
                self.assertEqual(list(thirds(told)), [])
                seen += 1
        self.assertGreater(seen, 8)

    def test_errors_in_order(self):
        clashing = THREE + Agent("o", ("write", "s", 0, 1, 1))
        with self.assertRaises(Clashes) as caught:
            laid(clashing)
        self.assertIs(type(caught.exception), Clashes)
        stands = Net(*clashing.variables, Signal("full"), Signal("empty"), *clashing.agents, line=2)
        with self.assertRaises(Stands) as caught:
            laid(stands)
        self.assertIs(type(caught.exception), Stands)

    def test_changes_nothing(self):
        before = copy.deepcopy((N, FILL, S, THREE))
        for net in (N, FILL, S):
            told = addresses(laid(net))
            pads(net)
            self.assertEqual(addresses(laid(net)), told)
        self.raises(NoLaying, {"variable": "s", "slot": 0}, laid, THREE)
        self.assertEqual((N, FILL, S, THREE), before)


class Pads(Case):
    def test_by_hand(self):
        for net, told in (
                (Net(), 0), (Net(Agent("a", ("read", "x", 0, 0, 0)), Variable("x", 1, 0)), 0),
                (Net(Variable("x", 1, 1023)), 1023), (Net(Variable("x", 8, 8)), 8),
                (Net(Variable("x", 2, 8, 0), Variable("y", 1, 4), ring=2), 5), (FILL, 0)):
            self.assertEqual(pads(net), told)

    def test_of_nets_that_stand_or_clash(self):
        self.assertEqual(pads(Net(Variable("x", 1, 3), Agent("a", ("write", "x", 0, 0, 0)), Agent("b", ("read", "x", 0, 0, 0)))), 3)
        self.assertEqual(pads(Net(Variable("x", 1, 3), Signal("s"), Agent("a", ("wait", "s"), ("post", "s")))), 3)

    def test_in_all_manners(self):
        """Where no third write is left, the net can be mended in each manner."""
        for manner in MANNERS:
            self.assertIs(is_right(mended(laid(S), **manner), **manner), True)


if __name__ == "__main__":
    unittest.main()

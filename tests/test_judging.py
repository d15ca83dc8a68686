"""[25], [28] and [29]: is_right, and what it means."""

import unittest

from all_states import TooLarge, can_be_wrong
from drawn_nets import MANNERS, net_at_random, net_in_pairs, net_in_turn
from helpers import FILL, Case
from plain_machine import drawn_rows
from unkeptlines.agents import Agent, Back
from unkeptlines.clashes import clash
from unkeptlines.errors import Clashes, Stands
from unkeptlines.faults import faults
from unkeptlines.judging import is_right
from unkeptlines.nets import Net
from unkeptlines.orders import Order
from unkeptlines.runs import play
from unkeptlines.signals import Signal
from unkeptlines.variables import Variable
from unkeptlines.ways import still

MAKERS = (net_in_turn, net_at_random, net_in_pairs)
X = Variable("x", 1, 0)
READ, WRITE = ("read", "x", 0, 0, 0), ("write", "x", 0, 0, 0)


def fine_nets(seeds):
    """Nets that go on and have no clash."""
    for maker in MAKERS:
        for seed in seeds:
            net = maker(seed)
            if still(net) is None and clash(net) is None:
                yield seed, net


class Judging(Case):
    def cpu(self, *steps):
        return FILL.with_agents(FILL.agents[0], Back("cpu", *steps))

    def test_fill(self):
        drop, wait = ("drop", "buf", 0, 0, 1), ("wait", "full")
        read, post = ("read", "buf", 0, 0, 1), ("post", "empty")
        for manner in MANNERS:
            self.assertIs(is_right(FILL, **manner), False)
            self.assertIs(is_right(self.cpu(drop, wait, read, post), **manner), not manner["eager"])
            self.assertIs(is_right(self.cpu(wait, drop, read, post), **manner), True)
            self.assertIs(is_right(self.cpu(wait, ("clean",) + drop[1:], read, post), **manner), False)
            self.assertIs(is_right(self.cpu(wait, ("get",) + drop[1:], post), **manner), True)
        self.assertIs(is_right(net=FILL), False)
        self.assertIs(is_right(self.cpu(drop, wait, read, post)), False)

    def test_whole_is_the_default(self):
        net = Net(
            X, Variable("y", 1, 1), Signal("full"), Signal("empty", 1),
            Agent("n", ("wait", "empty"), WRITE, ("post", "full")),
            Back("c", ("wait", "full"), ("flush", "x", 0, 0, 0), READ, ("post", "empty")),
            Back("e", ("write", "y", 0, 0, 0), ("clean", "y", 0, 0, 0)), line=4)
        self.assertIs(is_right(net), False)
        self.assertIs(is_right(net, eager=False), False)
        self.assertIs(is_right(net, whole=False), True)
        self.assertIs(is_right(net.with_line(1)), True)

    def test_empty_net(self):
        for manner in MANNERS:
            self.assertIs(is_right(Net(), **manner), True)
        self.assertIs(is_right(Net(Agent("a", READ), X)), True)

    def test_errors_in_order(self):
        clashing = Net(X, Agent("a", WRITE), Agent("b", READ))
        both = Net(X, Signal("s"), Agent("a", ("wait", "s"), ("post", "s"), WRITE), Agent("b", READ))
        for manner in MANNERS:
            with self.assertRaises(Clashes) as caught:
                is_right(clashing, **manner)
            self.assertEqual({caught.exception.one, caught.exception.other}, {(0, 0), (1, 0)})
            self.assertIs(type(caught.exception), Clashes)
            with self.assertRaises(Stands) as caught:
                is_right(both, **manner)
            self.assertEqual(caught.exception.ring[0], caught.exception.ring[-1])

    def test_no_faults(self):
        for seed, net in fine_nets(range(60)):
            for manner in MANNERS:
                self.assertIs(is_right(net, **manner), list(faults(net, Order(net), **manner)) == [])

    def test_right_in_all_manners(self):
        """[29]: with eager caches that write whole lines back it is the hardest."""
        seen = 0
        for seed, net in fine_nets(range(150)):
            if is_right(net):
                seen += 1
                for manner in MANNERS:
                    self.assertIs(is_right(net, **manner), True)
        self.assertGreater(seen, 50)

    def test_what_happens_is_the_same_later(self):
        """[25]: the faults of a right net in rounds that begin elsewhere: shifted slots make no difference."""
        for seed, net in fine_nets(range(60)):
            if net.ring > 1:
                slots = [Variable.made(one.name, one.size, one.at[1:] + one.at[:1]) for one in net.variables]
                turned = Net(*slots, *net.signals, *net.agents, line=net.line, ring=net.ring)
                for manner in MANNERS:
                    self.assertIs(is_right(turned, **manner), is_right(net, **manner))


class Exactly(Case):
    def test_right_nets_have_no_wrong_read(self):
        """Drawn runs of steps and deeds of caches."""
        seen = 0
        for seed, net in fine_nets(range(60)):
            for manner in MANNERS:
                if is_right(net, **manner):
                    rows, plain = drawn_rows(net, seed, 120, **manner)
                    self.assertEqual(play(net, rows, **manner).wrong, ())
                    seen += 1
        self.assertGreater(seen, 200)

    def test_by_all_states(self):
        """A net is right exactly if no state can be reached in which a read is wrong."""
        seen = []
        for seed, net in fine_nets(range(400, 430)):
            for manner in MANNERS:
                try:
                    wrong = can_be_wrong(net, most=6000, **manner)
                except TooLarge:
                    continue
                self.assertIs(is_right(net, **manner), not wrong, (seed, manner))
                seen.append(wrong)
        self.assertGreater(seen.count(True), 30)
        self.assertGreater(seen.count(False), 60)


if __name__ == "__main__":
    unittest.main()

"""[27] and [28]: faults, and the class Fault."""

import copy
import random
import unittest

from drawn_nets import MANNERS, net_at_random, net_in_pairs, net_in_turn
from helpers import ANY, FILL, Case
from plain_judgement import Plain
from unkeptlines.agents import Agent, Back, Through
from unkeptlines.clashes import clash
from unkeptlines.faults import Fault, faults
from unkeptlines.nets import Net
from unkeptlines.orders import Known, Order
from unkeptlines.signals import Signal
from unkeptlines.variables import Variable
from unkeptlines.ways import still, way

MAKERS = (net_in_turn, net_at_random, net_in_pairs)
X, Y = Variable("x", 1, 0), Variable("y", 1, 1)


def on(word, name="x"):
    return (word, name, 0, 0, 0)


def handed(writer, writes, reader, reads, *others, line=4):
    """Agent a does some steps, then b does some steps, and so on; bytes x and y share a line."""
    return Net(X, Y, Signal("full"), Signal("empty", 1),
               writer("a", ("wait", "empty"), *writes, ("post", "full")),
               reader("b", ("wait", "full"), *reads, ("post", "empty")), *others, line=line)


def told(net, order=None, **manner):
    return [(fault.place, fault.round, fault.address, fault.word, fault.write, fault.cause)
            for fault in faults(net, order or Order(net), **manner)]


def words(net, **manner):
    return [fault[3] for fault in told(net, **manner)]


class ByPlainWork(Case):
    def check(self, net, order, eager, whole):
        found = list(faults(net, order, eager=eager, whole=whole))
        plain = Plain(net, order, eager, whole).faults()
        self.assertEqual([(one.place, one.round, one.address, one.word, one.write) for one in found],
                         [row[:5] for row in plain])
        for one, row in zip(found, plain):
            self.assertIn(one.cause, row[5])
        return [one.word for one in found]

    def test_by_order(self):
        seen = []
        for maker in MAKERS:
            for seed in range(60):
                net = maker(seed)
                if still(net) is None:
                    seen += self.check(net, Order(net), **MANNERS[seed % 4])
        for word, least in (("due", 30), ("unsent", 40), ("spoilt", 10), ("lost", 0)):
            self.assertGreater(seen.count(word), least, word)

    def test_in_all_manners(self):
        for maker in (net_in_turn, net_in_pairs):
            for seed in range(100, 112):
                net = maker(seed)
                for manner in MANNERS:
                    self.check(net, Order(net), **manner)

    def test_by_known(self):
        for maker in MAKERS:
            for seed in range(200, 220):
                net, chance = maker(seed), random.Random(seed)
                manner = MANNERS[seed % 4]
                if still(net) is None:
                    self.check(net, Known.of(net), **manner)
                    rows = [way(net, one, other) for one in net.places() for other in net.places()
                            if one[0] != other[0]]
                    rows = [row for row in rows if row is not None]
                    self.check(net, Known(net, *chance.sample(rows, min(len(rows), seed % 5))), **manner)

    def test_known_of_tells_the_same(self):
        for maker in MAKERS:
            for seed in range(40):
                net, manner = maker(seed), MANNERS[seed % 4]
                if still(net) is None:
                    self.assertEqual(told(net, Known.of(net), **manner), told(net, Order(net), **manner))

    def test_rounds_at_will(self):
        """In instances that are told the rounds may be below 0; but each fault's own round is one of the first ring."""
        low = 0
        for seed in range(60):
            net = net_in_pairs(seed)
            for fault in faults(net, Order(net), **MANNERS[seed % 4]):
                self.assertTrue(0 <= fault.round < net.ring)
                low += fault.write is not None and fault.write[1] < 0
        self.assertGreater(low, 2)


class Fill(Case):
    def test_first_fault(self):
        self.assertEqual(told(FILL), [
            ((1, 1), 0, 0, "unsent", ((0, 1), 0), (((0, 1), 0), None)),
            ((1, 1), 0, 1, "unsent", ((0, 1), 0), (((0, 1), 0), None))])
        fault = list(faults(net=FILL, order=Order(FILL), eager=False, whole=False))[0]
        self.assertIs(type(fault), Fault)
        self.assertEqual((fault.place, fault.round, fault.address, fault.word), ((1, 1), 0, 0, "unsent"))
        self.assertEqual((fault.write, fault.cause), (((0, 1), 0), (((0, 1), 0), None)))

    def with_steps(self, *steps):
        whole = {"w": ("wait", "full"), "p": ("post", "empty")}
        row = [whole.get(step) or (step, "buf", 0, 0, 1) for step in steps]
        return FILL.with_agents(FILL.agents[0], Back("cpu", *row))

    def test_drop_ahead_of_the_wait(self):
        net = self.with_steps("drop", "w", "read", "p")
        self.assertEqual(told(net, eager=False), [])
        self.assertEqual(told(net, eager=False, whole=False), [])
        cause = (((0, 1), 0), ((1, 0), 0))
        self.assertEqual([row[3:] for row in told(net)], [("unsent", ((0, 1), 0), cause)] * 2)

    def test_drop_behind_the_wait(self):
        for word in ("drop", "flush"):
            for manner in MANNERS:
                self.assertEqual(told(self.with_steps("w", word, "read", "p"), **manner), [])
                self.assertEqual(told(self.with_steps("w", "get", "p"), **manner), [])
                self.assertEqual(len(told(self.with_steps("w", "clean", "read", "p"), **manner)), 2)


class Unsent(Case):
    def test_the_writer(self):
        """A put, a plain agent and one that writes through send at once; one that writes back needs upkeep."""
        read = (on("flush"), on("read"))
        for writer, write, right in (
                (Agent, [on("write")], True), (Through, [on("write")], True), (Through, [on("put")], True),
                (Back, [on("put")], True), (Back, [on("write")], False), (Back, [on("write"), on("clean")], True),
                (Back, [on("write"), on("flush")], True), (Back, [on("write"), on("drop")], False),
                (Back, [on("write"), on("drop"), on("flush")], False),
                (Back, [on("write"), on("clean"), on("drop")], True), (Back, [on("flush"), on("write")], False)):
            for reader, steps in ((Back, read), (Through, read), (Agent, read[1:]), (Back, (on("get"),))):
                net = handed(writer, write, reader, steps)
                for manner in MANNERS:
                    self.assertEqual(words(net, **manner), [] if right else ["unsent"], (write, steps))

    def test_no_sent(self):
        w = ((0, 1), 0)
        for steps, sent in (([], None), ([on("drop")], None), ([on("drop"), on("clean")], None)):
            net = handed(Back, [on("write"), *steps], Agent, [on("read")])
            self.assertEqual(told(net), [((1, 1), 0, 0, "unsent", w, (sent, ((1, 1), 0)))])
            net = handed(Back, [on("write"), *steps], Back, [on("drop"), on("read")])
            self.assertEqual(told(net), [((1, 2), 0, 0, "unsent", w, (sent, ((1, 1), 0)))])
            self.assertEqual(told(net, eager=False), [((1, 2), 0, 0, "unsent", w, (sent, ((1, 2), 0)))])
            net = handed(Back, [on("write"), *steps], Back, [on("read")])
            self.assertEqual(told(net), [((1, 1), 0, 0, "unsent", w, (sent, None))])

    def test_sent_too_late(self):
        """The upkeep stands ahead of the write: so the value is sent one round later."""
        net = handed(Back, [on("flush"), on("write")], Agent, [on("read")])
        self.assertEqual(told(net), [((1, 1), 0, 0, "unsent", ((0, 2), 0), (((0, 1), 1), ((1, 1), 0)))])

    def test_arrival_too_early(self):
        """The reader throws its copy away only behind the read; a calm one then reads on into the next round."""
        net = handed(Agent, [on("write")], Back, [on("read"), on("drop")])
        self.assertEqual(told(net), [((1, 1), 0, 0, "unsent", ((0, 1), 0), (((0, 1), 0), ((1, 2), -1)))])
        self.assertEqual(told(net, eager=False), [])
        net = handed(Agent, [on("write")], Back, [on("read"), on("drop"), on("read", "y")])
        self.assertEqual(told(net, eager=False), [((1, 1), 0, 0, "unsent", ((0, 1), 0), (((0, 1), 0), ((1, 3), -1)))])
        net = handed(Agent, [on("write")], Back, [on("read"), on("drop"), on("get", "y")])
        self.assertEqual(told(net, eager=False), [])

    def test_put_and_read_of_one_agent(self):
        """A put does not change the copy: it is not kept together with a read."""
        for kind in (Through, Back):
            net = Net(X, kind("a", on("put"), on("read")))
            self.assertEqual(told(net), [((0, 1), 0, 0, "unsent", ((0, 0), 0), (((0, 0), 0), None))])
            self.assertEqual(told(Net(X, kind("a", on("put"), on("flush"), on("read")))), [])
            self.assertEqual(words(Net(X, kind("a", on("flush"), on("put"), on("read")))), ["unsent"])
            calm = Net(X, kind("a", on("flush"), on("put"), on("read")))
            self.assertEqual(told(calm, eager=False), [])
            self.assertEqual(told(Net(X, kind("a", on("put"), on("get")))), [])

    def test_write_and_get_of_one_agent(self):
        self.assertEqual(told(Net(X, Through("a", on("write"), on("get")))), [])
        self.assertEqual(told(Net(X, Back("a", on("write"), on("get")))),
                         [((0, 1), 0, 0, "unsent", ((0, 0), 0), (None, ((0, 1), 0)))])
        self.assertEqual(told(Net(X, Back("a", on("write"), on("clean"), on("get")))), [])
        self.assertEqual(told(Net(X, Back("a", on("write"), on("get"), on("clean")))),
                         [((0, 1), 0, 0, "unsent", ((0, 0), 0), (((0, 2), 0), ((0, 1), 0)))])

    def test_plain_alone(self):
        for manner in MANNERS:
            self.assertEqual(told(Net(X, Agent("a", on("write"), on("read"))), **manner), [])
            self.assertEqual(told(Net(X, Agent("a", on("read"), on("write"))), **manner), [])


class Lost(Case):
    def test_drop_between(self):
        net = Net(X, Back("a", on("write"), on("drop"), on("read")))
        for manner in MANNERS:
            self.assertEqual(told(net, **manner), [((0, 2), 0, 0, "lost", ((0, 0), 0), ((0, 1), 0))])

    def test_drop_elsewhere(self):
        for steps in (("write", "read", "drop"), ("drop", "write", "read"), ("write", "flush", "drop", "read"),
                      ("write", "clean", "drop", "read"), ("write", "flush", "read"), ("write", "read")):
            net = Net(X, Back("a", *[on(word) for word in steps]))
            for manner in MANNERS:
                self.assertEqual(told(net, **manner), [], steps)

    def test_drop_in_the_next_round(self):
        net = Net(X, Back("a", on("drop"), on("read"), on("write")))
        self.assertEqual(told(net), [((0, 1), 0, 0, "lost", ((0, 2), -1), ((0, 0), 0))])

    def test_drop_of_another_byte(self):
        net = Net(X, Y, Back("a", on("write"), on("drop", "y"), on("read")), line=2)
        self.assertEqual(words(net), ["lost"])
        self.assertEqual(words(net.with_line(1)), [])

    def test_through_loses_nothing(self):
        self.assertEqual(told(Net(X, Through("a", on("write"), on("drop"), on("read")))), [])

    def test_first_word_that_applies(self):
        """Lost, and spoilt by another agent too."""
        net = Net(X, Y, Back("a", on("write"), on("drop"), on("read")), Back("e", on("write", "y")))
        self.assertEqual(words(net), ["lost"])
        net = handed(Back, [on("write")], Agent, [on("read")], Back("e", on("write", "y")))
        self.assertEqual(words(net), ["unsent"])
        net = Net(X, Y, Back("a", on("write"), on("flush"), on("read")), Back("e", on("write", "y")))
        self.assertEqual(words(net), ["spoilt"])
        self.assertEqual(words(net, whole=False), [])


class Spoilt(Case):
    RIGHT = ([on("write"), on("flush")], Back, [on("flush"), on("read")])

    def test_an_endless_spell(self):
        net = handed(Back, *self.RIGHT, Back("e", on("write", "y")))
        told_now = [((1, 2), 0, 0, "spoilt", ((0, 1), 0), ("e", None, None, None))]
        self.assertEqual(told(net), told_now)
        self.assertEqual(told(net, eager=False), told_now)
        self.assertEqual(told(net, whole=False), [])
        self.assertEqual(told(net.with_line(1)), [])

    def test_an_unordered_spell(self):
        for upkeep in ("clean", "drop", "flush"):
            net = handed(Back, *self.RIGHT, Back("e", on("write", "y"), on(upkeep, "y")))
            (place, n, address, word, write, cause), = told(net)
            self.assertEqual((place, n, address, word, write), ((1, 2), 0, 0, "spoilt", ((0, 1), 0)))
            name, first, end, source = cause
            self.assertEqual((name, first[0], end[0]), ("e", (2, 0), (2, 1)))
            self.assertEqual(first[1], end[1])
            self.assertEqual(source, None if upkeep == "clean" else ((2, 1), first[1] - 1))

    def test_only_step_writes_of_back(self):
        for kind, word in ((Through, "write"), (Back, "put"), (Back, "read"), (Agent, "write")):
            self.assertEqual(told(handed(Back, *self.RIGHT, kind("e", on(word, "y")))), [])

    def in_turn(self, *steps, first="write"):
        """e does its steps between those of b and those of a."""
        return Net(
            X, Y, Signal("full"), Signal("empty"), Signal("more", 1),
            Agent("a", ("wait", "more"), on(first), ("post", "full")),
            Agent("b", ("wait", "full"), on("read"), ("post", "empty")),
            Back("e", ("wait", "empty"), *[on(word, "y") for word in steps], ("post", "more")), line=2)

    def test_by_turns(self):
        """A spell that lies between two writes spoils nothing; one that goes on does."""
        for steps, right in ((("write", "flush"), True), (("flush", "write", "flush"), True),
                             (("write", "clean"), True), (("flush", "write"), False), (("write",), False)):
            for eager in (True, False):
                self.assertEqual(words(self.in_turn(*steps), eager=eager), [] if right else ["spoilt"], steps)
                self.assertEqual(words(self.in_turn(*steps), eager=eager, whole=False), [])

    def test_a_spell_that_ends_in_a_later_round(self):
        (fault,) = told(self.in_turn("flush", "write"))
        self.assertEqual(fault[5], ("e", ((2, 2), -1), ((2, 1), 0), ((2, 1), -1)))

    def test_the_source_is_behind_sent(self):
        """The copy is taken when the value is there already: only an older copy spoils."""
        def net(*steps):
            return Net(
                X, Y, Signal("full"), Signal("empty", 1), Signal("more"),
                Agent("a", ("wait", "empty"), on("write"), ("post", "full")),
                Back("e", ("wait", "full"), *[on(word, "y") for word in steps], ("post", "more")),
                Agent("b", ("wait", "more"), on("read"), ("post", "empty")), line=2)

        for steps, right in ((("drop", "write", "flush"), True), (("write", "drop"), False), (("write", "flush"), False),
                             (("clean", "write", "clean"), False), (("flush", "write", "clean", "write"), False),
                             (("flush", "write", "clean", "write", "clean"), True)):
            self.assertEqual(words(net(*steps)), [] if right else ["spoilt"], steps)
        # A calm cache takes the line over at its first access only.
        self.assertEqual(words(net("write", "flush"), eager=False), [])
        self.assertEqual(words(net("write", "flush", "read"), eager=False), ["spoilt"])
        self.assertEqual(words(net("write", "flush", "get"), eager=False), [])
        self.assertEqual(words(net("write", "flush", "put"), eager=False), [])
        self.assertEqual(words(net("write", "clean"), eager=False), ["spoilt"])

    def test_the_end_is_ahead_of_the_write(self):
        """e cleans its line ahead of each write; but its next spell may begin ahead of the read."""
        def net(*steps):
            return Net(
                X, Y, Signal("f"), Signal("g"), Signal("h"), Signal("i", 1),
                Agent("a", ("wait", "h"), ("wait", "i"), on("write"), ("post", "f"), ("post", "g")),
                Agent("b", ("wait", "f"), on("read"), ("post", "i")),
                Back("e", *steps, ("post", "h"), ("wait", "g")), line=2)

        told_now = ("e", ((2, 0), 1), ((2, 1), 1), None)
        for eager in (True, False):
            self.assertEqual(told(net(on("write", "y"), on("clean", "y")), eager=eager),
                             [((1, 1), 0, 0, "spoilt", ((0, 2), 0), told_now)])
            self.assertEqual(told(net(on("flush"), on("write", "y"), on("clean", "y")), eager=eager), [])

    def test_by_the_reader(self):
        net = handed(Agent, [on("write")], Back, [on("write", "y"), on("flush"), on("get")])
        (fault,) = told(net)
        self.assertEqual((fault[3], fault[5][0]), ("spoilt", "b"))
        self.assertEqual(words(net, eager=False), [])
        self.assertEqual(words(net, whole=False), [])

    def test_by_the_writer_of_a_put(self):
        for steps in ((on("write", "y"), on("put"), on("flush")), (on("put"), on("write", "y"), on("flush"))):
            net = handed(Back, steps, Agent, [on("read")])
            (fault,) = told(net)
            self.assertEqual((fault[3], fault[5][0]), ("spoilt", "a"))
            # With a step write in its place it is the same copy.
            same = [(("write",) + step[1:]) if step[0] == "put" else step for step in steps]
            self.assertEqual(told(handed(Back, same, Agent, [on("read")])), [])

    def test_changed_bytes_only(self):
        """Only an older write of the same byte can come back."""
        def net(*steps):
            return Net(
                X, Y, Signal("full"), Signal("empty", 1), Signal("more"),
                Back("e", ("wait", "empty"), *steps, ("post", "more")),
                Agent("a", ("wait", "more"), on("write"), ("post", "full")),
                Agent("b", ("wait", "full"), on("read"), ("post", "empty")), line=2)

        w = ((1, 1), 0)
        self.assertEqual(told(net(on("write")), whole=False), [((2, 1), 0, 0, "spoilt", w, ("e", ((0, 1), 0), None, None))])
        self.assertEqual(told(net(on("drop"), on("write")), whole=False), [
            ((2, 1), 0, 0, "spoilt", w, ("e", ((0, 2), 0), ((0, 1), 1), None))])
        for steps in ((on("write"), on("clean")), (on("write"), on("drop")), (on("write"), on("flush", "y")),
                      (on("write", "y"),), (on("put"),)):
            self.assertEqual(told(net(*steps), whole=False), [], steps)
        put = handed(Back, [on("write"), on("put"), on("flush")], Agent, [on("read")])
        self.assertEqual(told(put, whole=False), [
            ((1, 1), 0, 0, "spoilt", ((0, 2), 0), ("a", ((0, 1), 0), ((0, 3), 0), None))])

    def test_shifted_by_rings(self):
        """The one spell of a ring is told with other rounds than those of spells."""
        net = Net(
            Variable("x", 1, 0, 8), Variable("y", 1, 1), Signal("s"), Signal("t", 1),
            Agent("a", ("wait", "t"), ("write", "x", 0, 0, 0), ("post", "s")),
            Agent("b", ("wait", "s"), ("read", "x", 0, 0, 0), ("post", "t")),
            Back("e", ("write", "y", 0, 0, 0), ("flush", "x", 1, 0, 0), ("read", "y", 0, 0, 0)), line=2, ring=2)
        for fault in told(net):
            self.assertEqual((fault[0], fault[1], fault[2], fault[3]), ((1, 1), 0, 0, "spoilt"))
            name, first, end, source = fault[5]
            self.assertEqual((end[0], source[0], end[1] % 2, source[1] % 2), ((2, 1), (2, 1), 1, 1))
            self.assertEqual(end[1] - source[1], 2)
        self.assertEqual(len(told(net)), 1)


class Due(Case):
    def test_no_last_write(self):
        two = Net(X, Agent("a", on("write")), Agent("b", on("write")), Agent("c", on("read")))
        self.assertEqual(told(two), [((2, 0), 0, 0, "due", None, None)])
        one = Net(X, Agent("a", on("write")), Agent("c", on("read")))
        self.assertEqual(told(one), [((1, 0), 0, 0, "due", None, None)])
        self.assertIsNotNone(clash(one))

    def test_two_writes_that_are_not_ordered(self):
        net = Net(X, Signal("s"), Signal("t"), Signal("u", 1), Signal("v", 1),
                  Agent("a", ("wait", "u"), on("write"), ("post", "s")), Agent("b", ("wait", "v"), on("write"), ("post", "t")),
                  Agent("c", ("wait", "s"), ("wait", "t"), on("read"), ("post", "u"), ("post", "v")))
        self.assertEqual(words(net), ["due"])
        again = net.with_agents(*net.agents[:2], Agent("c", *net.agents[2].steps[:2], on("write"), *net.agents[2].steps[2:]))
        self.assertEqual(words(again), [])

    def test_an_order_that_knows_less(self):
        there = ((0, 1), (0, 2), (1, 0), (1, 1))
        here = ((1, 2), (0, 0))
        for ways in ((), (there,), (here,)):
            self.assertEqual([row[3:] for row in told(FILL, Known(FILL, *ways))], [("due", None, None)] * 2)
        self.assertEqual([row[3] for row in told(FILL, Known(FILL, there, here))], ["unsent"] * 2)
        # The order is of an equal net.
        self.assertEqual(told(FILL, Order(copy.deepcopy(FILL))), told(FILL))

    def test_ways_that_tell_the_write_but_not_that_it_is_sent(self):
        net = handed(Back, [on("write"), on("flush")], Agent, [on("read")])
        early = ((0, 1), (0, 2), (0, 3), (1, 0))
        self.assertEqual(told(net), [])
        known = Known(net, early, ((1, 2), (0, 0)))
        self.assertEqual(told(net, known), [((1, 1), 0, 0, "unsent", ((0, 1), 0), (((0, 2), 0), ((1, 1), 0)))])

    def test_nobody_writes(self):
        for manner in MANNERS:
            self.assertEqual(told(Net(X, Agent("a", on("read")), Back("c", on("read"))), **manner), [])
            half = Net(Variable("x", 2, 0), Back("a", ("write", "x", 0, 0, 0)), Agent("b", ("read", "x", 0, 0, 1)))
            self.assertEqual([row[2] for row in told(half, **manner)], [0])
            slots = Net(Variable("x", 1, 0, 1), Variable("y", 1, 2), Agent("b", ("read", "x", 1, 0, 0)), ring=2)
            self.assertEqual(told(slots, **manner), [])

    def test_raises_nothing(self):
        stands = Net(X, Signal("s"), Agent("a", ("wait", "s"), ("post", "s"), on("write")), Agent("c", on("read")))
        self.assertIsNotNone(still(stands))
        self.assertEqual(told(stands, Known(stands)), [((1, 0), 0, 0, "due", None, None)])
        self.assertEqual(told(stands, Known.of(stands), whole=False), [((1, 0), 0, 0, "due", None, None)])
        self.assertEqual(told(Net()), [])
        for maker in MAKERS:
            for seed in range(30):
                net = maker(seed)
                for _ in faults(net, Known.of(net), **MANNERS[seed % 4]):
                    pass


class Faults(Case):
    def test_in_order(self):
        for maker in MAKERS:
            for seed in range(60):
                net = maker(seed)
                if still(net) is None:
                    rows = [row[:3] for row in told(net)]
                    self.assertEqual(rows, sorted(set(rows)))

    def test_compared(self):
        one, other = list(faults(FILL, Order(FILL)))
        again = list(faults(FILL, Known.of(FILL), eager=False))[0]
        self.assertTrue(one == again and not one != again)
        self.assertTrue(one != other and not one == other)
        self.assertTrue(one < other and not other < one and not one < again)

    def test_compared_with_those_of_another_net(self):
        slots = Net(Variable("x", 1, 0, 1), Agent("a", ("write", "x", 0, 0, 0)), Agent(
            "b", ("read", "x", 0, 0, 0), ("read", "x", 1, 0, 0)), ring=2)
        rows = list(faults(slots, Order(slots)))
        self.assertEqual([(row.place, row.round, row.address) for row in rows],
                         [((1, 0), 0, 0), ((1, 0), 1, 1), ((1, 1), 0, 1), ((1, 1), 1, 0)])
        for k, one in enumerate(rows):
            for j, other in enumerate(rows):
                self.assertIs(one == other, k == j)
                self.assertIs(one < other, k < j)
        fill = list(faults(FILL, Order(FILL)))
        self.assertTrue(rows[1] < fill[0] < rows[2])
        self.assertTrue(fill[1] < rows[3] and not rows[3] < fill[1])
        self.assertTrue(fill[1] == rows[2] and rows[2] == fill[1])
        self.assertEqual(sorted([fill[0], rows[3], rows[0]]), [rows[0], fill[0], rows[3]])

    def test_nothing_else_is_equal(self):
        one = next(iter(faults(FILL, Order(FILL))))
        for value in ANY + [((1, 1), 0, 0), "unsent", FILL, Order(FILL), ((1, 1), 0, 0, "unsent")]:
            self.assertIs(one == value, False)
            self.assertIs(value == one, False)
            self.assertIs(one != value, True)
        self.assertIs(one == one, True)

    def test_two_walks(self):
        rows = told(FILL)
        one, other = iter(faults(FILL, Order(FILL))), iter(faults(FILL, Order(FILL)))
        walk = [next(one), next(other), next(other), next(one)]
        self.assertEqual([fault.address for fault in walk], [0, 0, 1, 1])
        self.assertEqual((list(one), list(other), told(FILL)), ([], [], rows))
        order = Order(FILL)
        for fault in faults(FILL, order):
            self.assertEqual(len(list(faults(FILL, order))), 2)

    def test_changes_nothing(self):
        net, order = copy.deepcopy(FILL), Order(FILL)
        before = [order.lag(one, other).rounds for one in FILL.places() for other in FILL.places()]
        list(faults(FILL, order))
        self.assertEqual(FILL, net)
        self.assertEqual([order.lag(one, other).rounds for one in FILL.places() for other in FILL.places()], before)


if __name__ == "__main__":
    unittest.main()

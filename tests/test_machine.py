"""[20] to [23]: the machine."""

import copy
import random
import unittest

from drawn_nets import MANNERS, net_at_random, net_in_pairs, net_in_turn
from helpers import ANY, FILL, Case
from plain_machine import PlainMachine, lines_near
from unkeptlines.agents import Agent, Back, Through
from unkeptlines.errors import Blocked, NoDeed, NoName
from unkeptlines.machine import Machine, quietly
from unkeptlines.nets import Net
from unkeptlines.signals import Signal
from unkeptlines.variables import Variable

MAKERS = (net_in_turn, net_at_random, net_in_pairs)
CPU0, DEV0 = ("cpu", 0, 0), ("dev", 0, 0)
X = Variable("x", 2, 0)


def alone(kind, *steps, line=4, **more):
    """A machine with one agent, called cpu, and one plain one, called dev, which writes bytes 0 and 1."""
    net = Net(X, Variable("y", 2, 3), kind("cpu", *steps), Agent("dev", ("write", "x", 0, 0, 1)), line=line)
    return Machine(net, **more)


def steps(machine, *names):
    return [machine.step(name) for name in names]


class Answers(Case):
    """Everything that a machine can be asked is compared."""

    def same(self, machine, plain):
        net = plain.net
        lines = lines_near(net)
        for line in lines:
            for at in plain.bytes_of(line):
                self.assertEqual(machine.memory(at), plain.memory[at])
                self.assertEqual(machine.last(at), plain.last[at])
        for agent in net.agents:
            name = agent.name
            for line in lines:
                self.assertEqual(machine.held(name, line), plain.held(name, line), (name, line))
                self.assertEqual(machine.changed(name, line), plain.changed(name, line), (name, line))
            self.assertEqual(machine.next_of(name), plain.next_of(name))
            self.assertIs(machine.can(name), plain.can(name))
        for signal in net.signals:
            self.assertEqual(machine.left(signal.name), plain.tokens[signal.name])
        self.assertEqual(machine.acts, plain.acts)
        self.assertEqual(machine.wrong, tuple(plain.wrong))

    def do(self, machine, plain, chance, lines):
        """One drawn step or deed, done or refused by both alike."""
        name = chance.choice([agent.name for agent in plain.net.agents])
        if chance.random() < 0.6:
            if plain.can(name):
                self.assertEqual(machine.step(name), plain.step(name))
            else:
                self.raises(Blocked, {"name": name}, machine.step, name)
            return
        word, line = chance.choice(("fetch", "write_back", "discard")), chance.choice(lines)
        silent = chance.random() < 0.1
        reason = plain.why_not(word, name, line, silent)
        if silent:
            with machine.quiet() as same:
                self.assertIs(same, machine)
                self.raises(NoDeed, {"reason": reason}, getattr(same, word), name, line)
        elif reason is not None:
            self.raises(NoDeed, {"reason": reason}, getattr(machine, word), name, line)
        else:
            self.assertIsNone(getattr(machine, word)(name, line))
            plain.deed(word, name, line)

    def test_long_runs(self):
        for maker in MAKERS:
            for seed in range(36):
                net, chance = maker(seed), random.Random(seed)
                manner = MANNERS[seed % 4]
                machine, plain = Machine(net, **manner), PlainMachine(net, **manner)
                lines = lines_near(net) + [1024 // net.line, -1]
                twins = []
                for k in range(120):
                    self.do(machine, plain, chance, lines)
                    if k % 5 == 0:
                        self.same(machine, plain)
                    if k in (30, 60):
                        twins.append((machine.twin(), copy.deepcopy(plain)))
                for twin, other in twins:
                    self.same(twin, other)
                    for k in range(40):
                        self.do(twin, other, chance, lines)
                    self.same(twin, other)
                self.same(machine, plain)

    def test_at_first(self):
        for manner in MANNERS:
            machine = Machine(FILL, **manner)
            self.same(machine, PlainMachine(FILL, **manner))
            self.assertEqual([machine.memory(at) for at in (0, 1023)], [None, None])
            self.assertEqual([machine.last(at) for at in (0, 1023)], [None, None])
            self.assertEqual((machine.acts, machine.wrong), (0, ()))
            self.assertEqual((machine.left("full"), machine.left("empty")), (0, 1))
            self.assertEqual((machine.next_of("dev"), machine.next_of("cpu")), ((0, 0), (0, 0)))
            self.assertIs(machine.can("dev"), True)
            self.assertIs(machine.can("cpu"), False)


class Steps(Case):
    def test_fill(self):
        machine = Machine(FILL)
        machine.fetch("cpu", 0)
        self.assertEqual(steps(machine, "dev", "dev", "dev", "cpu"), [None] * 4)
        self.assertEqual(machine.step(name="cpu"), (None, None))
        self.assertEqual(machine.last(0), ("dev", 1, 0))
        self.assertEqual(machine.last(address=1), machine.memory(address=1))
        self.assertEqual(machine.wrong, (("cpu", 1, 0, 0), ("cpu", 1, 0, 1)))
        self.assertEqual(machine.acts, 1)
        self.assertEqual(machine.next_of("cpu"), (2, 0))
        steps(machine, "cpu", "dev")
        self.assertEqual(machine.next_of(name="cpu"), (0, 1))
        steps(machine, "dev")
        self.assertEqual(machine.memory(0), ("dev", 1, 1))
        self.assertEqual(machine.held("cpu", 0), (None,) * 4)

    def test_get_and_put_beside_a_copy(self):
        for kind in (Through, Back):
            machine = alone(kind, ("read", "x", 0, 0, 0), ("put", "x", 0, 0, 0), ("read", "x", 0, 0, 0),
                            ("get", "x", 0, 0, 1))
            self.assertEqual(steps(machine, "cpu", "dev", "cpu"), [(None,), None, None])
            self.assertEqual(machine.held("cpu", 0), (None,) * 4)
            self.assertEqual(machine.changed("cpu", 0), ())
            self.assertEqual([machine.memory(0), machine.memory(1)], [("cpu", 1, 0), DEV0])
            self.assertEqual(machine.step("cpu"), (None,))
            self.assertEqual(machine.wrong, (("cpu", 2, 0, 0),))
            self.assertEqual(machine.step("cpu"), (("cpu", 1, 0), DEV0))
            self.assertEqual(machine.held("cpu", 0), (None,) * 4)
            self.assertEqual(len(machine.wrong), 1)

    def test_get_and_put_without_a_copy(self):
        for kind in (Through, Back):
            machine = alone(kind, ("put", "x", 0, 0, 0), ("get", "x", 0, 0, 1))
            self.assertEqual(steps(machine, "cpu", "cpu"), [None, (CPU0, None)])
            self.assertIsNone(machine.held("cpu", 0))
            self.assertEqual(machine.memory(0), CPU0)

    def test_through_writes(self):
        with_copy = alone(Through, ("write", "x", 0, 0, 0), ("read", "x", 0, 0, 0), ("write", "x", 0, 1, 1))
        steps(with_copy, "cpu")
        self.assertIsNone(with_copy.held("cpu", 0))
        self.assertEqual(with_copy.memory(0), CPU0)
        steps(with_copy, "cpu", "cpu")
        self.assertEqual(with_copy.held("cpu", 0), (CPU0, ("cpu", 2, 0), None, None))
        self.assertEqual(with_copy.changed("cpu", 0), ())
        self.assertEqual(with_copy.memory(1), ("cpu", 2, 0))
        self.raises(NoDeed, {"reason": "clean"}, with_copy.write_back, "cpu", 0)

    def test_back_writes(self):
        machine = alone(Back, ("write", "x", 0, 1, 1), ("write", "y", 0, 0, 1))
        steps(machine, "dev", "cpu")
        self.assertEqual(machine.held("cpu", 0), (DEV0, CPU0, None, None))
        self.assertEqual(machine.changed("cpu", 0), (1,))
        self.assertEqual((machine.memory(1), machine.last(1)), (DEV0, CPU0))
        steps(machine, "cpu")
        one = ("cpu", 1, 0)
        self.assertEqual(machine.held("cpu", 0), (DEV0, CPU0, None, one))
        self.assertEqual(machine.held("cpu", 1), (one, None, None, None))
        self.assertEqual((machine.changed("cpu", 0), machine.changed("cpu", 1)), ((1, 3), (4,)))
        self.assertEqual((machine.acts, machine.wrong), (0, ()))

    def test_a_read_on_two_lines(self):
        for kind in (Through, Back):
            machine = alone(kind, ("read", "y", 0, 0, 1), line=2)
            machine.fetch("cpu", 1)
            self.assertEqual(machine.step("cpu"), (None, None))
            self.assertEqual((machine.held("cpu", 1), machine.held("cpu", 2)), ((None, None), (None, None)))
            self.assertIsNone(machine.held("cpu", 0))
            self.assertEqual(machine.acts, 1)

    def test_write_back(self):
        """All bytes of the copy if whole, else the changed ones."""
        for whole in (True, False):
            machine = alone(Back, ("write", "x", 0, 1, 1), whole=whole)
            steps(machine, "cpu", "dev")
            self.assertIsNone(machine.write_back(name="cpu", line=0))
            self.assertEqual((machine.memory(0), machine.memory(1)), (None if whole else DEV0, CPU0))
            self.assertEqual(machine.held("cpu", 0), (None, CPU0, None, None))
            self.assertEqual(machine.changed(name="cpu", line=0), ())
            self.assertEqual(machine.last(0), DEV0)
            self.assertEqual(machine.acts, 1)

    def test_clean_flush_and_drop(self):
        """They concern the whole line, also bytes that the step does not name."""
        for word in ("clean", "flush", "drop"):
            for whole in (True, False):
                machine = alone(Back, ("write", "x", 0, 1, 1), (word, "y", 0, 0, 0), whole=whole)
                steps(machine, "cpu", "dev", "cpu")
                told = [machine.memory(0), machine.memory(1)]
                self.assertEqual(told, [DEV0, DEV0] if word == "drop" else [None if whole else DEV0, CPU0])
                self.assertEqual(machine.held("cpu", 0), (None, CPU0, None, None) if word == "clean" else None)
                self.assertEqual(machine.changed("cpu", 0), ())
                self.assertEqual(machine.last(1), DEV0)
                self.assertEqual(machine.acts, 0)

    def test_upkeep_of_unchanged_lines(self):
        """A line without changed bytes is not written back."""
        for kind in (Through, Back):
            for word in ("clean", "flush", "drop"):
                machine = alone(kind, ("read", "x", 0, 0, 0), (word, "x", 0, 0, 0), (word, "y", 0, 0, 1))
                steps(machine, "cpu", "dev", "cpu")
                self.assertEqual((machine.memory(0), machine.memory(1)), (DEV0, DEV0))
                self.assertEqual(machine.held("cpu", 0), (None,) * 4 if word == "clean" else None)
                steps(machine, "cpu")
                self.assertEqual((machine.memory(0), machine.held("cpu", 1)), (DEV0, None))

    def test_upkeep_on_two_lines(self):
        machine = alone(Back, ("write", "y", 0, 0, 1), ("flush", "y", 0, 0, 1))
        steps(machine, "cpu", "cpu")
        self.assertEqual((machine.memory(3), machine.memory(4)), (CPU0, CPU0))
        self.assertEqual((machine.held("cpu", 0), machine.held("cpu", 1)), (None, None))

    def test_plain_agents_use_the_memory(self):
        machine = alone(Agent, ("read", "x", 0, 0, 1), ("write", "x", 0, 0, 0))
        self.assertEqual(steps(machine, "cpu", "dev", "cpu", "cpu"), [(None, None), None, None, (("cpu", 1, 0), DEV0)])
        self.assertEqual((machine.held("cpu", 0), machine.changed("cpu", 0)), (None, ()))

    def test_signals(self):
        net = Net(Signal("s", 2), Agent("a", ("wait", "s")), Agent("b", ("post", "s")))
        machine = Machine(net)
        self.assertEqual(steps(machine, "a", "a"), [None, None])
        self.assertEqual(machine.left("s"), 0)
        self.assertIs(machine.can("a"), False)
        self.raises(Blocked, {"name": "a"}, machine.step, "a")
        self.raises(Blocked, {"name": "a"}, machine.step, name="a")
        self.assertEqual((machine.next_of("a"), machine.left("s"), machine.acts), ((0, 2), 0, 0))
        for k in range(5):
            steps(machine, "b")
            self.assertEqual(machine.left(signal="s"), k + 1)
        self.assertIs(machine.can(name="a"), True)
        steps(machine, "a")
        self.assertEqual((machine.left("s"), machine.next_of("a"), machine.next_of("b")), (4, (0, 3), (0, 5)))

    def test_wrong_in_order(self):
        machine = alone(Back, ("read", "x", 0, 0, 1), ("read", "x", 0, 1, 1))
        steps(machine, "cpu", "dev", "cpu", "cpu")
        told = (("cpu", 1, 0, 1), ("cpu", 0, 1, 0), ("cpu", 0, 1, 1))
        self.assertEqual(machine.wrong, told)
        steps(machine, "dev", "cpu")
        self.assertEqual(machine.wrong, (*told, ("cpu", 1, 1, 1)))

    def test_slots_by_rounds(self):
        net = Net(Variable("x", 1, 0, 9), Agent("a", ("write", "x", 1, 0, 0)), ring=2)
        machine = Machine(net)
        steps(machine, "a")
        self.assertEqual((machine.memory(0), machine.memory(9)), (None, ("a", 0, 0)))
        steps(machine, "a", "a")
        self.assertEqual((machine.memory(0), machine.memory(9)), (("a", 0, 1), ("a", 0, 2)))


class Deeds(Case):
    def test_reasons(self):
        net = Net(X, Through("t", ("read", "x", 0, 0, 0)), Back("b", ("write", "x", 0, 0, 0)),
                  Agent("p", ("read", "x", 0, 0, 0)), line=4)
        machine = Machine(net)
        for line in (256, -1, 257, 10 ** 99, None, True, "0", (0,), [0], {}):
            for word in ("fetch", "write_back", "discard"):
                self.raises(NoDeed, {"reason": "line"}, getattr(machine, word), "t", line)
                self.raises(NoDeed, {"reason": "plain"}, getattr(machine, word), "p", line)
        machine.fetch("t", 255)
        self.assertEqual(machine.held("t", 255), (None,) * 4)
        self.raises(NoDeed, {"reason": "there"}, machine.fetch, "t", 255)
        self.raises(NoDeed, {"reason": "clean"}, machine.write_back, "t", 255)
        self.raises(NoDeed, {"reason": "absent"}, machine.write_back, "t", 0)
        self.raises(NoDeed, {"reason": "absent"}, machine.discard, "t", 0)
        self.assertIsNone(machine.discard(name="t", line=255))
        self.assertIsNone(machine.held("t", 255))
        machine.step("b")
        self.raises(NoDeed, {"reason": "there"}, machine.fetch, "b", 0)
        self.raises(NoDeed, {"reason": "changed"}, machine.discard, "b", 0)
        machine.write_back("b", 0)
        self.raises(NoDeed, {"reason": "clean"}, machine.write_back, "b", 0)
        machine.discard("b", 0)
        machine.fetch(name="b", line=0)
        self.assertEqual(machine.held("b", 0), (("b", 0, 0), None, None, None))
        self.assertEqual(machine.acts, 5)

    def test_two_reasons_at_once(self):
        net = Net(X, Through("t", ("read", "x", 0, 0, 0)), Agent("p", ("read", "x", 0, 0, 0)))
        machine = Machine(net, eager=False)
        machine.step("t")
        self.raises(NoDeed, {"reason": "plain"}, machine.fetch, "p", 0)
        self.raises(NoDeed, {"reason": "calm"}, machine.fetch, "t", None)
        self.raises(NoDeed, {"reason": "calm"}, machine.fetch, "t", 0)
        self.raises(NoDeed, {"reason": "calm"}, machine.fetch, "t", 1)
        self.raises(NoDeed, {"reason": "line"}, machine.write_back, "t", 128)
        self.raises(NoDeed, {"reason": "clean"}, machine.write_back, "t", 0)
        machine.discard("t", 0)
        with machine.quiet():
            for word in ("fetch", "write_back", "discard"):
                for name in ("t", "p"):
                    for line in (0, 1, 128, None):
                        self.raises(NoDeed, {"reason": "quiet"}, getattr(machine, word), name, line)
                self.raises(NoName, {"name": "x"}, getattr(machine, word), "x", 0)

    def test_names(self):
        net = Net(X, Signal("s", 1), Back("a", ("read", "x", 0, 0, 0), ("wait", "s"), ("post", "s")))
        machine = Machine(net)
        for bad in ANY + ["s", "b", "x", "aa"]:
            for call in (machine.step, machine.next_of, machine.can):
                self.raises(NoName, {"name": bad}, call, bad)
            for call in (machine.fetch, machine.write_back, machine.discard, machine.held, machine.changed):
                self.raises(NoName, {"name": bad}, call, bad, 0)
                self.raises(NoName, {"name": bad}, call, bad, None)
            if bad != "s":
                self.raises(NoName, {"name": bad}, machine.left, bad)
        self.raises(NoName, {"name": "a"}, machine.left, "a")
        self.assertEqual((machine.next_of("a"), machine.acts, machine.left("s")), ((0, 0), 0, 1))
        self.raises(NoName, {"name": "a"}, Machine(Net()).step, "a")

    def test_last_line(self):
        for line in Net.LINES:
            net = Net(Variable("x", 1, 1023), Back("a", ("write", "x", 0, 0, 0)), line=line)
            machine = Machine(net)
            machine.fetch("a", 1024 // line - 1)
            self.raises(NoDeed, {"reason": "line"}, machine.fetch, "a", 1024 // line)
            machine.step("a")
            self.assertEqual(machine.held("a", 1024 // line - 1), (None,) * (line - 1) + (("a", 0, 0),))
            self.assertEqual(machine.changed("a", 1024 // line - 1), (1023,))
            self.assertIsNone(machine.memory(1023))
            machine.write_back("a", 1024 // line - 1)
            self.assertEqual(machine.memory(1023), ("a", 0, 0))

    def test_other_lines_are_not_held(self):
        machine = Machine(FILL)
        machine.fetch("cpu", 0)
        for line in (1, 255, 256, -1, 10 ** 9, None, "0", [0], (0,), {}):
            self.assertIsNone(machine.held("cpu", line))
            self.assertEqual(machine.changed("cpu", line), ())

    def test_what_is_returned_is_a_tuple_of_its_own(self):
        machine = Machine(FILL)
        machine.fetch("cpu", 0)
        held = machine.held("cpu", 0)
        steps(machine, "dev", "dev", "dev", "cpu", "cpu")
        wrong = machine.wrong
        steps(machine, "cpu", "dev", "dev", "dev", "cpu", "cpu")
        self.assertEqual(held, (None,) * 4)
        self.assertEqual((len(wrong), len(machine.wrong)), (2, 4))


class Twins(Case):
    def test_apart(self):
        for manner in MANNERS:
            net = Net(X, Signal("s"), Back("a", ("write", "x", 0, 0, 0), ("read", "x", 0, 0, 1), ("post", "s")),
                      Agent("b", ("write", "x", 0, 1, 1), ("wait", "s")), line=2)
            one = Machine(net, **manner)
            steps(one, "a", "b", "a")
            other = one.twin()
            self.assertIs(type(other), Machine)
            self.assertIsNot(one, other)
            self.assertEqual(other.wrong, (("a", 1, 0, 1),))
            steps(other, "a", "b", "a")
            other.write_back("a", 0)
            self.assertEqual((one.next_of("a"), one.next_of("b"), one.left("s")), ((2, 0), (1, 0), 0))
            self.assertEqual((one.acts, one.memory(0), one.last(0)), (0, None, ("a", 0, 0)))
            self.assertEqual(other.memory(1), None if manner["whole"] else ("b", 0, 0))
            self.assertEqual((one.changed("a", 0), other.changed("a", 0)), ((0,), ()))
            self.assertEqual(one.held("a", 0), (("a", 0, 0), None))
            steps(one, "a")
            one.write_back("a", 0)
            one.discard("a", 0)
            self.assertEqual(other.held("a", 0), (("a", 0, 1), None))
            self.assertEqual((one.acts, other.acts, one.left("s"), other.left("s")), (2, 1, 1, 0))
            if not manner["eager"]:
                self.raises(NoDeed, {"reason": "calm"}, other.fetch, "a", 1)
            else:
                other.fetch("a", 1)
                self.assertIsNone(one.held("a", 1))

    def test_not_inside_of_quiet(self):
        machine = Machine(FILL)
        with machine.quiet():
            twin = machine.twin()
            twin.fetch("cpu", 0)
            self.raises(NoDeed, {"reason": "quiet"}, machine.fetch, "cpu", 0)
            with twin.quiet():
                self.raises(NoDeed, {"reason": "quiet"}, twin.discard, "cpu", 0)
            twin.discard("cpu", 0)
            self.raises(NoDeed, {"reason": "quiet"}, machine.fetch, "cpu", 0)
        machine.fetch("cpu", 0)
        self.assertEqual((machine.acts, twin.acts), (1, 2))


class Oops(Exception):
    """An error that the package does not know."""


class Quiets(Case):
    def is_quiet(self, machine):
        try:
            machine.discard("cpu", 9)
        except NoDeed as error:
            return error.reason == "quiet"

    def test_steps_fetch_as_always(self):
        machine = Machine(FILL)
        with machine.quiet() as same:
            self.assertIs(same, machine)
            steps(same, "dev", "dev", "dev", "cpu")
            self.assertEqual(same.step("cpu"), (("dev", 1, 0), ("dev", 1, 0)))
            self.assertIsNotNone(same.held("cpu", 0))
            self.assertEqual((same.acts, same.wrong), (0, ()))
        self.assertIs(self.is_quiet(machine), False)
        machine.discard("cpu", 0)

    def test_nested(self):
        machine = Machine(FILL)
        with machine.quiet():
            with machine.quiet() as inner:
                self.assertIs(inner, machine)
                with machine.quiet():
                    self.assertTrue(self.is_quiet(machine))
                self.assertTrue(self.is_quiet(machine))
            self.assertTrue(self.is_quiet(machine))
        self.assertFalse(self.is_quiet(machine))
        with machine.quiet(), machine.quiet():
            self.assertTrue(self.is_quiet(machine))
        self.assertFalse(self.is_quiet(machine))

    def test_not_entered(self):
        machine = Machine(FILL)
        block = machine.quiet()
        self.assertFalse(self.is_quiet(machine))
        with block:
            self.assertTrue(self.is_quiet(machine))
        self.assertFalse(self.is_quiet(machine))

    def test_left_by_an_error(self):
        machine = Machine(FILL)
        with self.assertRaises(Oops):
            with machine.quiet():
                with self.assertRaises(Blocked):
                    with machine.quiet():
                        machine.step("cpu")
                self.assertTrue(self.is_quiet(machine))
                raise Oops()
        self.assertFalse(self.is_quiet(machine))

    def test_left_by_a_return(self):
        def deed(machine):
            with machine.quiet():
                return self.is_quiet(machine)

        machine = Machine(FILL)
        self.assertTrue(deed(machine))
        self.assertFalse(self.is_quiet(machine))

    def test_quietly(self):
        machine = Machine(FILL)
        seen = []

        def deed(same):
            seen.append(same)
            self.assertTrue(self.is_quiet(machine))
            return [same.step("dev"), 5]

        self.assertEqual(quietly(machine, deed), [None, 5])
        self.assertEqual(quietly(machine=machine, deed=lambda same: same.next_of("dev")), (1, 0))
        self.assertIs(seen[0], machine)
        self.assertFalse(self.is_quiet(machine))
        with machine.quiet():
            self.assertIsNone(quietly(machine, lambda same: None))
            self.assertTrue(self.is_quiet(machine))
        self.assertFalse(self.is_quiet(machine))

    def test_quietly_with_an_error(self):
        machine = Machine(FILL)
        self.raises(Blocked, {"name": "cpu"}, quietly, machine, lambda same: same.step("cpu"))
        self.raises(NoDeed, {"reason": "quiet"}, quietly, machine, lambda same: same.fetch("cpu", 0))

        def fails(same):
            raise Oops()

        with self.assertRaises(Oops):
            quietly(machine, fails)
        self.assertFalse(self.is_quiet(machine))

    def test_the_net_stays_as_it_is(self):
        before = copy.deepcopy(FILL)
        machine = Machine(FILL)
        steps(machine, "dev", "dev", "dev", "cpu", "cpu")
        self.assertEqual(FILL, before)


if __name__ == "__main__":
    unittest.main()

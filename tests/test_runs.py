"""[24]: rows, and play."""

import copy
import unittest

from drawn_nets import MANNERS, net_at_random, net_in_pairs, net_in_turn
from helpers import ANY, FILL, Case
from plain_machine import drawn_rows, lines_near
from unkeptlines.agents import Agent, Back
from unkeptlines.errors import NoRun
from unkeptlines.machine import Machine
from unkeptlines.nets import Net
from unkeptlines.runs import play
from unkeptlines.signals import Signal
from unkeptlines.variables import Variable

ROWS = (("fetch", "cpu", 0), ("step", "dev"), ("step", "dev"), ("step", "dev"), ("step", "cpu"), ("step", "cpu"))
FREE = Net(Variable("x", 1, 0), Signal("s"), Back("a", ("write", "x", 0, 0, 0)), Agent("p", ("read", "x", 0, 0, 0)),
           Agent("q", ("wait", "s"), ("post", "s")))
BAD_ROWS = [
    ("step",), ("step", "a", 0), ("step", "b"), ("step", "s"), ("step", "x"), ("step", None), ("step", ["a"]),
    ("step", "q"), ("fetch", "a"), ("fetch", "a", 128), ("fetch", "a", None), ("fetch", "a", True), ("fetch", "a", "0"),
    ("fetch", "a", [0]), ("fetch", "p", 0), ("fetch", "b", 0), ("fetch", {}, 0), ("fetch", "a", 0, 0),
    ("write_back", "a", 0), ("discard", "a", 0), ("discard", "a"), ("write_back", "a", 0, 0), ["step", "a"],
    ["fetch", "a", 0], ("Step", "a"), ("steps", "a"), (("step",), "a"), (["step"], "a"), ("twin", "a", 0),
    ("held", "a", 0), "step a", ("step", "a"), "sa", {"step": "a"}]


class Plays(Case):
    def test_fill(self):
        machine = play(FILL, ROWS)
        self.assertIs(type(machine), Machine)
        self.assertEqual(machine.wrong, (("cpu", 1, 0, 0), ("cpu", 1, 0, 1)))
        self.assertEqual((machine.next_of("dev"), machine.next_of("cpu"), machine.acts), ((0, 1), (2, 0), 1))
        self.assertEqual(play(net=FILL, rows=list(ROWS)).wrong, machine.wrong)
        machine.step("cpu")
        self.assertEqual(play(FILL, ROWS).next_of("cpu"), (2, 0))

    def test_no_rows(self):
        for rows in ((), []):
            for manner in MANNERS:
                machine = play(FILL, rows, **manner)
                self.assertEqual((machine.next_of("dev"), machine.acts, machine.wrong), ((0, 0), 0, ()))
        self.assertEqual(play(Net(), ()).acts, 0)

    def test_manners(self):
        self.raises(NoRun, {"row": 0}, play, FILL, ROWS, eager=False)
        self.assertEqual(play(FILL, ROWS[1:], eager=False, whole=False).wrong, ())
        net = Net(Variable("x", 2, 0), Back("a", ("write", "x", 0, 0, 0)), Agent("b", ("write", "x", 0, 1, 1)))
        rows = (("step", "a"), ("step", "b"), ("write_back", "a", 0))
        self.assertEqual(play(net, rows).memory(1), None)
        self.assertEqual(play(net, rows, whole=True).memory(1), None)
        self.assertEqual(play(net, rows, whole=False).memory(1), ("b", 0, 0))
        self.assertEqual(play(net, rows, eager=False).acts, 1)

    def test_runs_that_a_machine_did(self):
        for maker in (net_in_turn, net_at_random, net_in_pairs):
            for seed in range(20):
                net, manner = maker(seed), MANNERS[seed % 4]
                rows, plain = drawn_rows(net, seed, 150, **manner)
                machine = play(net, list(rows) if seed % 2 else rows, **manner)
                self.assertEqual((machine.wrong, machine.acts), (tuple(plain.wrong), plain.acts))
                for agent in net.agents:
                    self.assertEqual(machine.next_of(agent.name), plain.next_of(agent.name))
                    for line in lines_near(net):
                        self.assertEqual(machine.held(agent.name, line), plain.held(agent.name, line))
                        self.assertEqual([machine.memory(at) for at in plain.bytes_of(line)],
                                         [plain.memory[at] for at in plain.bytes_of(line)])

    def test_how_many(self):
        rows = [("step", "a")] * 4000
        self.assertEqual(play(FREE, rows).next_of("a"), (0, 4000))
        self.assertEqual(play(FREE, tuple(rows)).next_of("a"), (0, 4000))
        self.raises(NoRun, {"row": 0}, play, FREE, rows + [("step", "a")])
        self.raises(NoRun, {"row": 0}, play, FREE, tuple(rows + [("step", "a")]))
        self.raises(NoRun, {"row": 0}, play, FREE, [None] * 4001)
        self.raises(NoRun, {"row": 3999}, play, FREE, rows[1:] + [None])

    def test_no_rows_at_all(self):
        for bad in ANY:
            if bad not in ((), []):
                self.raises(NoRun, {"row": 0}, play, FREE, bad)

    def test_bad_rows(self):
        for bad in BAD_ROWS + ANY:
            if bad == ("step", "a"):
                continue
            before = copy.deepcopy(bad)
            for good in (0, 1, 3):
                rows = [("step", "p")] * good + [bad, ("step", "p"), None]
                self.raises(NoRun, {"row": good}, play, FREE, rows)
                self.raises(NoRun, {"row": good}, play, FREE, tuple(rows))
            self.assertEqual(bad, before)

    def test_the_first_that_cannot_be_done(self):
        rows = (("step", "a"), ("discard", "a", 0), ("step", "q"))
        self.raises(NoRun, {"row": 1}, play, FREE, rows)
        self.raises(NoRun, {"row": 2}, play, FREE, (*rows[:1], ("write_back", "a", 0), *rows[2:]))
        self.raises(NoRun, {"row": 1}, play, FREE, (("fetch", "a", 0), ("fetch", "a", 0)))
        self.raises(NoRun, {"row": 3}, play, FREE, (
            ("fetch", "a", 0), ("step", "a"), ("write_back", "a", 0), ("write_back", "a", 0)))
        self.raises(NoRun, {"row": 4}, play, FILL, ROWS[:4] + ROWS[:1])

    def test_rows_are_kept_by_nobody(self):
        rows = list(ROWS)
        machine = play(FILL, rows)
        self.assertEqual(rows, list(ROWS))
        rows.clear()
        self.assertEqual(machine.acts, 1)


if __name__ == "__main__":
    unittest.main()

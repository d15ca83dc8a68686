"""[7] and [8]: steps and agents."""

import copy
import unittest

from helpers import ANY, GOOGOL, INTEGERS, NOTHINGS, Case
from unkeptlines.agents import Agent, Back, Through
from unkeptlines.errors import NoPart
from unkeptlines.signals import Signal
from unkeptlines.variables import Variable

KINDS = (Agent, Through, Back)
ACCESSES = ("read", "write", "get", "put")
UPKEEP = ("clean", "drop", "flush")
WORDS = ACCESSES + UPKEEP + ("post", "wait")
PLAIN = ("read", "write", "post", "wait")


def step_of(word):
    return (word, "s") if word in ("post", "wait") else (word, "x", 0, 0, 0)


class Agents(Case):
    def no_part(self, kind, reason, place, name, *steps):
        fields = {"reason": reason, "place": place}
        self.raises(NoPart, fields, kind, name, *steps)
        self.raises(NoPart, fields, kind.made, name, steps)
        self.raises(NoPart, fields, kind.made, name, list(steps))
        if reason != "name":
            agent = kind(name, ("read", "x", 0, 0, 0))
            self.raises(NoPart, fields, agent.with_steps, *steps)

    def test_classes(self):
        self.assertTrue(issubclass(Through, Agent))
        self.assertTrue(issubclass(Back, Through))
        self.assertEqual([kind.KIND for kind in KINDS], ["plain", "through", "back"])
        self.assertEqual([kind.CACHED for kind in KINDS], [False, True, True])
        self.assertEqual([type(kind.CACHED) for kind in KINDS], [bool, bool, bool])
        for kind in KINDS:
            agent = kind("a", ("wait", "s"))
            self.assertEqual((agent.KIND, agent.CACHED), (kind.KIND, kind.CACHED))

    def test_each_class_has_the_methods_itself(self):
        for kind in KINDS:
            for name in ("made", "may", "with_steps", "__len__", "__getitem__", "__eq__", "KIND", "CACHED"):
                self.assertIn(name, vars(kind), (kind, name))

    def test_attributes(self):
        steps = (("wait", "s"), ("read", "x", 0, 0, 1), ("post", "t"))
        for kind in KINDS:
            for agent in (kind("cpu", *steps), kind.made("cpu", steps), kind.made("cpu", list(steps)),
                          kind.made(name="cpu", steps=steps)):
                self.assertIs(type(agent), kind)
                self.assertEqual((agent.name, agent.steps, len(agent)), ("cpu", steps, 3))
                self.assertIs(type(agent.steps), tuple)
                self.assertEqual([agent[k] for k in range(3)], list(steps))

    def test_made_keeps_nothing_of_a_list(self):
        for kind in KINDS:
            steps = [("wait", "s"), ("post", "s")]
            agent = kind.made("a", steps)
            self.assertEqual(steps, [("wait", "s"), ("post", "s")])
            steps[0] = None
            steps.append(("wait", "t"))
            self.assertEqual((agent.steps, len(agent)), ((("wait", "s"), ("post", "s")), 2))

    def test_names(self):
        for kind in KINDS:
            for name in ("a", "abcdefgh"):
                self.assertEqual(kind(name, ("wait", "s")).name, name)
            for name in NOTHINGS + INTEGERS:
                self.no_part(kind, "name", None, name, ("wait", "s"))
                self.no_part(kind, "name", None, name)
                self.no_part(kind, "name", None, name, None)

    def test_how_many_steps(self):
        step = ("wait", "s")
        for kind in KINDS:
            self.no_part(kind, "steps", None, "a")
            for many in (1, 23, 24):
                self.assertEqual(len(kind("a", *[step] * many)), many)
                self.assertEqual(len(kind.made("a", [step] * many)), many)
            for many in (25, 26, 500):
                self.no_part(kind, "steps", None, "a", *[step] * many)
            self.no_part(kind, "steps", None, "a", *[None] * 25)

    def test_words(self):
        for kind in KINDS:
            allowed = PLAIN if kind is Agent else WORDS
            agent = kind("a", ("wait", "s"))
            for word in WORDS:
                self.assertIs(agent.may(word), word in allowed)
                if word in allowed:
                    self.assertEqual(kind("a", step_of(word))[0], step_of(word))
                    self.assertEqual(agent.with_steps(step_of(word))[0], step_of(word))
                else:
                    self.no_part(kind, "step", 0, "a", step_of(word))
                    self.no_part(kind, "step", 1, "a", ("wait", "s"), step_of(word), None)
            for word in ANY:
                if word not in ("read", "post"):
                    self.assertIs(agent.may(word), False, word)
            self.assertIs(agent.may(word="read"), True)
            for word in ("fetch", "Read", "reads", "READ", "", "waits", "back", "read ", "rea"):
                self.assertIs(agent.may(word), False)
                self.no_part(kind, "step", 0, "a", (word, "x", 0, 0, 0))
                self.no_part(kind, "step", 0, "a", (word, "s"))

    def test_numbers_of_a_step(self):
        for word in ACCESSES + UPKEEP:
            for shift in range(4):
                self.assertEqual(Back("a", (word, "x", shift, 0, 0))[0], (word, "x", shift, 0, 0))
            for shift in [-1, 4, GOOGOL, -GOOGOL] + NOTHINGS:
                self.no_part(Back, "step", 0, "a", (word, "x", shift, 0, 0))
            for first in range(-1, 9):
                for last in range(-1, 9):
                    step = (word, "x", 0, first, last)
                    if 0 <= first <= last <= 7:
                        self.assertEqual(Back("a", step)[0], step)
                        self.assertEqual(Through("a", step)[0], step)
                    else:
                        self.no_part(Back, "step", 0, "a", step)
            for value in [GOOGOL, -GOOGOL, "x"] + NOTHINGS:
                self.no_part(Back, "step", 0, "a", (word, "x", 0, value, 7))
                self.no_part(Back, "step", 0, "a", (word, "x", 0, 0, value))
                self.no_part(Back, "step", 0, "a", (word, "x", 0, value, value))
        for step in (("read", "x", 1, 0, 7), ("write", "x", 3, 7, 7)):
            self.assertEqual(Agent("a", step)[0], step)

    def test_names_in_a_step(self):
        for kind in KINDS:
            for word in ("read", "write"):
                self.assertEqual(kind("a", (word, "abcdefgh", 0, 0, 0))[0][1], "abcdefgh")
            for word in ("post", "wait"):
                self.assertEqual(kind("a", (word, "abcdefgh"))[0][1], "abcdefgh")
            for name in NOTHINGS + INTEGERS:
                self.no_part(kind, "step", 0, "a", ("read", name, 0, 0, 0))
                self.no_part(kind, "step", 0, "a", ("post", name))
                self.no_part(kind, "step", 0, "a", ("wait", name))

    def test_wrong_forms(self):
        for kind in KINDS:
            for step in NOTHINGS + INTEGERS + [
                    "read", ("read", "x", 0, 0), ("read", "x", 0, 0, 0, 0), ("read", "x"), ("post", "s", 0),
                    ("wait",), ("post", "s", 0, 0, 0), ("wait", "s", 0, 0, 0), ["read", "x", 0, 0, 0], ["wait", "s"],
                    (("read", "x", 0, 0, 0),), ("x", "read", 0, 0, 0), ("s", "wait"), ("wait", "wait", "s")]:
                self.no_part(kind, "step", 0, "a", step)
                self.no_part(kind, "step", 2, "a", ("wait", "s"), ("wait", "s"), step, step)
            for word in NOTHINGS + INTEGERS:
                self.no_part(kind, "step", 0, "a", (word, "x", 0, 0, 0))
                self.no_part(kind, "step", 0, "a", (word, "s"))

    def test_what_is_passed_is_not_changed(self):
        for value in ANY:
            steps = [("wait", "s"), value, (value, value, value, value, value), (value, value)]
            before = copy.deepcopy(steps)
            self.no_part(Back, "step", 2 if value == ("wait", "s") or value == ("read", "x", 0, 0, 0) else 1, "a",
                         *steps)
            self.assertEqual(steps, before)

    def test_with_steps(self):
        for kind in KINDS:
            agent = kind("cpu", ("wait", "s"))
            other = agent.with_steps(("post", "s"), ("read", "x", 0, 0, 0))
            self.assertIs(type(other), kind)
            self.assertEqual(other, kind("cpu", ("post", "s"), ("read", "x", 0, 0, 0)))
            self.assertEqual(agent, kind("cpu", ("wait", "s")))
            self.no_part(kind, "steps", None, "cpu")

    def test_equal(self):
        steps = (("wait", "s"), ("post", "s"))
        for kind in KINDS:
            one = kind("a", *steps)
            self.assertTrue(one == kind("a", *steps))
            self.assertFalse(one != kind("a", *steps))
            others = [other("a", *steps) for other in KINDS if other is not kind]
            others += [kind("b", *steps), kind("a", *steps[::-1]), kind("a", *steps[:1]), kind("a", *steps, *steps)]
            others += [Signal("a"), Variable("a", 1, 0), "a", 1, steps, ("a", steps), None, kind]
            for other in others:
                self.assertIs(one == other, False)
                self.assertIs(other == one, False)
                self.assertIs(one != other, True)


if __name__ == "__main__":
    unittest.main()

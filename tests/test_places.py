"""[11]: places, steps, and what they touch."""

import copy
import unittest

from helpers import ANY, FILL, GOOGOL, Case
from unkeptlines.agents import Agent, Back, Through
from unkeptlines.errors import NoStep
from unkeptlines.nets import Net
from unkeptlines.orders import Known, Order
from unkeptlines.signals import Signal
from unkeptlines.variables import Variable
from unkeptlines.ways import lag, neighbours, way

NOT_PLACES = [value for value in ANY if value != (0, 0)] + [
    (0, -1), (-1, 0), (-1, -1), (0, 3), (1, 3), (2, 0), (0, GOOGOL), (GOOGOL, 0), (0, -GOOGOL), (False, 0), (0, True),
    (True, True), (0, None), (None, 0), ("dev", 0), (0, "0"), [0, 0], [(0, 0)], ((0, 0),), ((0, 0), (0, 1)), (0, (0,)),
    ([0], [0]), (0, 0, 0), (0,), {0: 0}]

MANY = Net(
    Variable("buf", 4, 0, 8), Variable("x", 2, 14), Signal("s"),
    Through("a", ("get", "buf", 0, 0, 0), ("post", "s"), ("put", "x", 0, 0, 1), ("clean", "x", 0, 0, 0)),
    Agent("b", ("wait", "s")),
    Back("c", ("drop", "buf", 3, 1, 3), ("flush", "x", 0, 1, 1), ("read", "buf", 1, 2, 3), ("write", "buf", 2, 0, 3)),
    ring=2, line=4)


class Places(Case):
    def test_places(self):
        self.assertEqual(list(FILL.places()), [(0, 0), (0, 1), (0, 2), (1, 0), (1, 1), (1, 2)])
        self.assertEqual(list(MANY.places()), [(0, 0), (0, 1), (0, 2), (0, 3), (1, 0), (2, 0), (2, 1), (2, 2), (2, 3)])
        self.assertEqual(list(Net(Variable("x", 1, 0)).places()), [])
        for place in MANY.places():
            self.assertEqual([type(part) for part in place], [int, int])
            self.assertIs(type(place), tuple)

    def test_accesses(self):
        self.assertEqual(list(FILL.accesses()), [(0, 1), (1, 1)])
        self.assertEqual(list(MANY.accesses()), [(0, 0), (0, 2), (2, 2), (2, 3)])
        self.assertEqual(list(Net().accesses()), [])

    def test_walks_side_by_side(self):
        one, other, third = MANY.places(), MANY.places(), MANY.accesses()
        self.assertEqual(next(one), (0, 0))
        self.assertEqual(next(one), (0, 1))
        self.assertEqual(next(third), (0, 0))
        self.assertEqual(next(other), (0, 0))
        self.assertEqual(next(third), (0, 2))
        self.assertEqual(next(one), (0, 2))
        self.assertEqual(list(other), list(MANY.places())[1:])
        self.assertEqual(list(one), list(MANY.places())[3:])
        self.assertEqual(list(third), [(2, 2), (2, 3)])
        pairs = [(a, b) for a in FILL.accesses() for b in FILL.accesses()]
        self.assertEqual(pairs, [((0, 1), (0, 1)), ((0, 1), (1, 1)), ((1, 1), (0, 1)), ((1, 1), (1, 1))])

    def test_step(self):
        for a, agent in enumerate(MANY.agents):
            for s, step in enumerate(agent.steps):
                self.assertEqual(MANY.step((a, s)), step)
        self.assertEqual(FILL.step(place=(1, 0)), ("wait", "full"))

    def test_step_of_no_place(self):
        for place in NOT_PLACES:
            before = copy.deepcopy(place)
            error = self.raises(NoStep, {"place": place}, FILL.step, place)
            self.assertIs(error.place, place)
            self.assertEqual(place, before)
        for place in [(0, 0), (0, -1), (-1, 0)]:
            self.raises(NoStep, {"place": place}, Net().step, place)
        self.raises(NoStep, {"place": (1, 1)}, MANY.step, (1, 1))
        self.raises(NoStep, {"place": (3, 0)}, MANY.step, (3, 0))


class NoPlaces(Case):
    """Whatever takes a place raises NoStep for what is none; of two places the first one counts."""

    def test_one_place(self):
        for place in NOT_PLACES:
            told = {"place": place}
            self.raises(NoStep, told, FILL.touched, place, 0)
            self.raises(NoStep, told, FILL.lines, place, 0)
            self.raises(NoStep, told, neighbours, FILL, place)

    def test_two_places(self):
        order, known = Order(FILL), Known.of(FILL)
        for place in NOT_PLACES:
            for other in ((0, 0), None, (5, 5), "x"):
                told = {"place": place}
                self.raises(NoStep, told, lag, FILL, place, other)
                self.raises(NoStep, told, way, FILL, place, other)
                for asked in (order, known):
                    self.raises(NoStep, told, asked.lag, place, other)
                    self.raises(NoStep, told, asked.ahead, place, 0, other, 0)
            for one in ((0, 0), (1, 2)):
                self.raises(NoStep, told, lag, FILL, one, place)
                self.raises(NoStep, told, way, FILL, one, place)
                for asked in (order, known):
                    self.raises(NoStep, told, asked.lag, one, place)
                    self.raises(NoStep, told, asked.ahead, one, 0, place, 0)


class Touched(Case):
    def test_the_example(self):
        net = Net(Variable("buf", 4, 0, 8), Agent("a", ("read", "buf", 1, 2, 3)), ring=2, line=4)
        self.assertEqual(net.touched((0, 0), 0), (10, 11))
        self.assertEqual(net.touched((0, 0), 1), (2, 3))
        self.assertEqual(net.lines((0, 0), 0), (2,))
        self.assertEqual(net.lines((0, 0), 1), (0,))

    def test_rounds(self):
        for n in (-1000, -3, -2, -1, 0, 1, 2, 3, 999, 1000):
            even = n % 2 == 0
            self.assertEqual(MANY.touched((2, 2), n), (10, 11) if even else (2, 3))
            self.assertEqual(MANY.touched((2, 3), n), (0, 1, 2, 3) if even else (8, 9, 10, 11))
            self.assertEqual(MANY.touched((2, 0), n), (9, 10, 11) if even else (1, 2, 3))
            self.assertEqual(MANY.touched((0, 0), n), (0,) if even else (8,))
            self.assertEqual(MANY.touched((2, 1), n), (15,))
            self.assertEqual(MANY.touched((0, 2), n), (14, 15))
            self.assertEqual(MANY.touched((0, 3), n), (14,))
            self.assertEqual(MANY.touched(place=(0, 1), n=n), ())
            self.assertEqual(MANY.touched((1, 0), n), ())
            self.assertEqual(MANY.lines(place=(0, 1), n=n), ())
            self.assertEqual(MANY.lines((1, 0), n), ())

    def test_each_ring_and_shift(self):
        for ring in (1, 2, 3, 4):
            at = (40, 8, 24, 0)[:ring]
            for shift in range(4):
                net = Net(Variable("v", 3, *at), Variable("one", 3, 100), Agent(
                    "a", ("write", "v", shift, 1, 2), ("read", "one", shift, 0, 1)), ring=ring)
                for n in range(-9, 10):
                    start = at[(n + shift) % ring]
                    self.assertEqual(net.touched((0, 0), n), (start + 1, start + 2))
                    self.assertEqual(net.touched((0, 1), n), (100, 101))

    def test_lines(self):
        parts = [Variable("v", 8, 12), Agent("a", ("read", "v", 0, 0, 7), ("read", "v", 0, 3, 4))]
        for line, told, short in ((1, tuple(range(12, 20)), (15, 16)), (2, (6, 7, 8, 9), (7, 8)), (4, (3, 4), (3, 4)),
                                  (8, (1, 2), (1, 2)), (16, (0, 1), (0, 1))):
            net = Net(*parts, line=line)
            self.assertEqual(net.lines((0, 0), 0), told)
            self.assertEqual(net.lines((0, 1), 5), short)
            self.assertIs(type(net.lines((0, 0), 0)), tuple)

    def test_tuples(self):
        self.assertIs(type(MANY.touched((0, 0), 0)), tuple)
        self.assertIs(type(MANY.touched((0, 1), 0)), tuple)


if __name__ == "__main__":
    unittest.main()

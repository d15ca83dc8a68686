"""[14]: the class Lag."""

import itertools
import unittest

from unkeptlines.lags import Lag
from unkeptlines.signals import Signal

ROUNDS = [0, 1, 2, 3, 12, 13, 10 ** 6, None]


def greatness(rounds):
    return float("inf") if rounds is None else rounds


class Lags(unittest.TestCase):
    def test_rounds(self):
        for rounds in ROUNDS:
            self.assertEqual(Lag(rounds).rounds, rounds)
            self.assertEqual(Lag(rounds=rounds).rounds, rounds)
        self.assertIs(type(Lag(0).rounds), int)
        self.assertIs(Lag(None).rounds, None)

    def test_none(self):
        self.assertIs(type(Lag.none()), Lag)
        self.assertIs(Lag.none().rounds, None)
        self.assertTrue(Lag.none() == Lag(None))
        self.assertIsInstance(vars(Lag)["none"], staticmethod)

    def test_plus(self):
        for one, other in itertools.product(ROUNDS, ROUNDS):
            total = Lag(one) + Lag(other)
            self.assertIs(type(total), Lag)
            if one is None or other is None:
                self.assertIs(total.rounds, None)
            else:
                self.assertEqual(total.rounds, one + other)

    def test_plus_changes_nothing(self):
        for one, other in itertools.product(ROUNDS, ROUNDS):
            left, right = Lag(one), Lag(other)
            left + right
            left < right
            left == right
            bool(left)
            self.assertEqual((left.rounds, right.rounds), (one, other))

    def test_order(self):
        for one, other in itertools.product(ROUNDS, ROUNDS):
            left, right = Lag(one), Lag(other)
            self.assertIs(left == right, greatness(one) == greatness(other), (one, other))
            self.assertIs(left != right, greatness(one) != greatness(other), (one, other))
            self.assertIs(left < right, greatness(one) < greatness(other), (one, other))
            self.assertIs(left > right, greatness(one) > greatness(other), (one, other))

    def test_no_lag_is_equal_to_itself_and_greatest(self):
        self.assertIs(Lag(None) == Lag(None), True)
        self.assertIs(Lag(None) < Lag(None), False)
        self.assertIs(Lag(10 ** 90) < Lag(None), True)
        self.assertIs(Lag(None) < Lag(10 ** 90), False)

    def test_nothing_but_a_lag_is_equal_to_a_lag(self):
        for rounds in ROUNDS:
            for other in (rounds, 0, 1, 2, True, False, None, "0", (), (0,), (rounds,), [rounds], {}, Signal("s"), Lag):
                self.assertIs(Lag(rounds) == other, False)
                self.assertIs(other == Lag(rounds), False)
                self.assertIs(Lag(rounds) != other, True)

    def test_truth(self):
        for rounds in ROUNDS:
            self.assertIs(bool(Lag(rounds)), rounds is not None)
        self.assertIs(bool(Lag(0)), True)
        self.assertIs(bool(Lag.none()), False)


if __name__ == "__main__":
    unittest.main()

"""[2]: what a name and an integer are."""

import unittest

from helpers import ANY, GOOGOL
from unkeptlines.kinds import is_integer, is_name, is_within


class Kinds(unittest.TestCase):
    def test_integers(self):
        for value in (0, 1, -1, GOOGOL, -GOOGOL):
            self.assertIs(is_integer(value), True)
        for value in (True, False, None, "1", (1,), [1], {1: 1}):
            self.assertIs(is_integer(value), False)

    def test_integers_within_limits(self):
        for value, told in ((0, True), (3, True), (2, True), (-1, False), (4, False), (True, False), ("1", False)):
            self.assertIs(is_within(value, 0, 3), told, value)

    def test_names(self):
        for value in ("a", "z", "abcdefgh", "qrstuvwx", "net", "line", "none"):
            self.assertIs(is_name(value), True, value)
        for value in ("", "abcdefghi", "A", "aB", "a1", "a_", "a b", " ", "a\n", "\n", "`", "{", "@", "[", "a" * 8000):
            self.assertIs(is_name(value), False, value)

    def test_any_value_is_answered(self):
        for value in ANY:
            self.assertIs(is_name(value), value in ("x", "read", "post"), value)


if __name__ == "__main__":
    unittest.main()

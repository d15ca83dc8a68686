"""[5] and [6]: variables and lines."""

import copy
import unittest

from helpers import ANY, GOOGOL, INTEGERS, NOTHINGS, Case
from unkeptlines.agents import Agent
from unkeptlines.errors import NoPart
from unkeptlines.signals import Signal
from unkeptlines.variables import Variable, lines_of


class Variables(Case):
    def no_part(self, reason, place, *args):
        for call in (Variable, lambda name, size, *at: Variable.made(name, size, at),
                     lambda name, size, *at: Variable.made(name, size, list(at))):
            self.raises(NoPart, {"reason": reason, "place": place}, call, *args)

    def test_the_example(self):
        variable = Variable("buf", 4, 0, 8)
        self.assertEqual(len(variable), 2)
        self.assertEqual(variable[0], 0)
        self.assertEqual(variable[1], 8)

    def test_attributes(self):
        variable = Variable("buf", 4, 8, 0, 20)
        self.assertEqual((variable.name, variable.size, variable.at), ("buf", 4, (8, 0, 20)))
        self.assertIs(type(variable.at), tuple)
        for slots in ((0,), (0, 8), (9, 0, 30), (4, 8, 0, 12)):
            variable = Variable("x", 4, *[4 * at for at in slots])
            self.assertEqual(len(variable), len(slots))
            self.assertEqual([variable[k] for k in range(len(slots))], [4 * at for at in slots])

    def test_made(self):
        for at in ((0, 8), [0, 8]):
            variable = Variable.made("buf", 4, at)
            self.assertIs(type(variable), Variable)
            self.assertEqual(variable, Variable("buf", 4, 0, 8))
            self.assertEqual(variable.at, (0, 8))
        self.assertEqual(Variable.made(name="buf", size=4, at=[0]), Variable("buf", 4, 0))

    def test_made_keeps_nothing_of_a_list(self):
        at = [0, 8]
        variable = Variable.made("buf", 4, at)
        at[0] = 100
        at.append(200)
        self.assertEqual((variable.at, len(variable), variable[0]), ((0, 8), 2, 0))
        self.assertEqual(at, [100, 8, 200])

    def test_made_changes_nothing(self):
        at = [0, 8]
        Variable.made("buf", 4, at)
        self.assertEqual(at, [0, 8])

    def test_names(self):
        for name in ("a", "abcdefgh", "zz"):
            self.assertEqual(Variable(name, 1, 0).name, name)
        for name in NOTHINGS + INTEGERS + [("read", "x", 0, 0, 0)]:
            self.no_part("name", None, name, 1, 0)

    def test_sizes(self):
        for size in range(1, 9):
            self.assertEqual(Variable("x", size, 0).size, size)
        for size in [0, 9, -1, GOOGOL, -GOOGOL, "x", "1", (0, 0)] + NOTHINGS:
            self.no_part("size", None, "x", size, 0)

    def test_how_many_slots(self):
        self.no_part("slots", None, "x", 1)
        for many in (1, 2, 3, 4):
            self.assertEqual(len(Variable("x", 1, *range(many))), many)
        self.no_part("slots", None, "x", 1, 0, 1, 2, 3, 4)
        self.no_part("slots", None, "x", 1, *range(300))

    def test_addresses(self):
        for size in range(1, 9):
            self.assertEqual(Variable("x", size, 1024 - size)[0], 1024 - size)
            self.no_part("address", 0, "x", size, 1025 - size)
            self.no_part("address", 1, "x", size, 0, 1025 - size)
            self.no_part("address", 0, "x", size, 1024)
        self.assertEqual(Variable("x", 1, 1023)[0], 1023)
        for address in [-1, -GOOGOL, GOOGOL, "x", "0", (0, 0)] + NOTHINGS:
            self.no_part("address", 0, "x", 1, address)
            self.no_part("address", 0, "x", 1, address, address)
            self.no_part("address", 2, "x", 1, 0, 8, address)
            self.no_part("address", 3, "x", 1, 0, 8, 20, address)

    def test_slots_that_touch(self):
        for size in range(1, 9):
            self.assertEqual(Variable("x", size, 0, size).at, (0, size))
            self.assertEqual(Variable("x", size, size, 0).at, (size, 0))
            self.assertEqual(len(Variable("x", size, 2 * size, 0, 3 * size, size)), 4)

    def test_slots_with_a_common_byte(self):
        for size in range(1, 9):
            for apart in range(size):
                self.no_part("bytes", 1, "x", size, 0, apart)
                self.no_part("bytes", 1, "x", size, apart, 0)
                self.no_part("bytes", 2, "x", size, 100, 20, 20 + apart)
                self.no_part("bytes", 2, "x", size, 20 + apart, 100, 20)
                self.no_part("bytes", 3, "x", size, 20, 100, 200, 20 + apart)
        self.no_part("bytes", 1, "x", 4, 0, 3, 6, 9)

    def test_the_first_error_counts(self):
        self.no_part("name", None, "", 0)
        self.no_part("name", None, None, True, None)
        self.no_part("size", None, "x", 9)
        self.no_part("size", None, "x", None, 0, 0)
        self.no_part("slots", None, "x", 8, -1, -1, -1, -1, -1)
        self.no_part("address", 2, "x", 8, 0, 0, -1)
        self.no_part("address", 1, "x", 8, 0, 2000, None)
        self.no_part("bytes", 1, "x", 8, 0, 0, 0)

    def test_any_value_everywhere(self):
        for value in ANY:
            for args in ((value, 1, 0), ("x", value, 0), ("x", 1, value), ("x", 1, 500, value), (value, value, value)):
                before = copy.deepcopy(args)
                try:
                    Variable(*args)
                except NoPart:
                    pass
                self.assertEqual(args, before)

    def test_equal(self):
        one = Variable("buf", 4, 0, 8)
        self.assertTrue(one == Variable("buf", 4, 0, 8))
        self.assertFalse(one != Variable("buf", 4, 0, 8))
        for other in (Variable("but", 4, 0, 8), Variable("buf", 3, 0, 8), Variable("buf", 4, 8, 0),
                      Variable("buf", 4, 0), Variable("buf", 4, 0, 8, 16), Variable("buf", 4, 0, 9),
                      Signal("buf"), Agent("buf", ("wait", "s")), "buf", 4, ("buf", 4, (0, 8)), (0, 8), None):
            self.assertIs(one == other, False)
            self.assertIs(other == one, False)
            self.assertIs(one != other, True)


class Lines(unittest.TestCase):
    def test_the_example(self):
        self.assertEqual(lines_of((3, 4, 9), 4), (0, 1, 2))

    def test_ascending_and_each_once(self):
        for addresses in ((9, 3, 4, 3), [9, 9, 4, 3, 4], (4, 9, 3)):
            lines = lines_of(addresses, 4)
            self.assertEqual(lines, (0, 1, 2))
            self.assertIs(type(lines), tuple)
        self.assertEqual(lines_of((1023, 0, 512, 100, 17), 1), (0, 17, 100, 512, 1023))

    def test_none(self):
        self.assertEqual(lines_of((), 4), ())
        self.assertEqual(lines_of([], 4), ())

    def test_each_size_of_a_line(self):
        for line in (1, 2, 4, 8, 16):
            self.assertEqual(lines_of(range_list(0, 2 * line + 1), line), (0, 1, 2))
            self.assertEqual(lines_of((line - 1,), line), (0,))
            self.assertEqual(lines_of((line,), line), (1,))
            self.assertEqual(lines_of((1023,), line), (1024 // line - 1,))

    def test_a_list_is_not_changed(self):
        addresses = [9, 3, 4, 3]
        lines_of(addresses, 4)
        self.assertEqual(addresses, [9, 3, 4, 3])

    def test_by_name(self):
        self.assertEqual(lines_of(addresses=(5,), line=2), (2,))


def range_list(low, high):
    return list(range(low, high))


if __name__ == "__main__":
    unittest.main()

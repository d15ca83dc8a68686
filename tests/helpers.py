"""What several tests need."""

import unittest

from unkeptlines.agents import Agent, Back
from unkeptlines.nets import Net
from unkeptlines.signals import Signal
from unkeptlines.variables import Variable

FILL = Net(
    Variable("buf", 2, 0), Signal("full"), Signal("empty", 1),
    Agent("dev", ("wait", "empty"), ("write", "buf", 0, 0, 1), ("post", "full")),
    Back("cpu", ("wait", "full"), ("read", "buf", 0, 0, 1), ("post", "empty")), line=4)

GOOGOL = 10 ** 99

# Any values, none of which is a name, a step, a place or an integer.
NOTHINGS = [
    None, True, False, "", "A", "Ab", "a1", "a b", " a", "a\n", "a_b", "x" * 9, "x" * 8000, "1", "a\tb",
    (), (None,), ("x",), ((),), (((((),),),),), ("read",), ("x", "y", "z"), ("read", "x"), (True, 0), (0, False),
    [], [0], ["x"], ["read", "x", 0, 0, 0], ["wait", "s"], [[[[[]]]]], [0, 0], (0,), (0, 0, 0),
    {}, {"x": 1}, {0: 0}, {"read": "x"}, {("a", 1): [None, {"b": ()}]},
]
INTEGERS = [-GOOGOL, -1, 0, 1, 7, 8, 9, 1023, 1024, GOOGOL]
ANY = NOTHINGS + INTEGERS + ["x", "read", "post", ("read", "x", 0, 0, 0), ("wait", "s"), (0, 0)]


class Case(unittest.TestCase):
    """Tests that look at errors closely."""

    def raises(self, kind, fields, call, *args, **more):
        """The call raises an error of this very class with these very fields."""
        try:
            call(*args, **more)
        except Exception as error:  # the class is looked at below
            self.assertIs(type(error), kind, (error, args, more))
            told = vars(error)
            self.assertEqual({key: told.get(key, "absent") for key in fields}, fields, (args, more))
            for key, value in fields.items():
                self.assertIs(type(told[key]), type(value), (key, args, more))
            return error
        self.fail(f"{kind.__name__} {fields} was not raised for {args!r} {more!r}")

"""[45]: the errors."""

import unittest

import unkeptlines.errors as errors
from unkeptlines.errors import UnkeptError

PARAMETERS = {
    "NoPart": ("reason", "place"), "NoNet": ("reason", "place"), "NoName": ("name",), "NoStep": ("place",),
    "NoWay": ("place",), "Stands": ("ring",), "Clashes": ("one", "other"), "Blocked": ("name",),
    "NoDeed": ("reason",), "NoRun": ("row",), "NoMend": ("third",), "NoLaying": ("variable", "slot"),
    "TooMany": ("most",), "NoText": ("row",), "NoRow": (),
}


class Errors(unittest.TestCase):
    def test_unkept_error_is_a_value_error(self):
        self.assertEqual(UnkeptError.__bases__, (ValueError,))

    def test_the_fifteen_are_its_direct_subclasses(self):
        self.assertEqual(len(PARAMETERS), 15)
        for name in PARAMETERS:
            self.assertEqual(getattr(errors, name).__bases__, (UnkeptError,), name)
        self.assertEqual({kind.__name__ for kind in UnkeptError.__subclasses__()}, set(PARAMETERS))

    def test_the_parameters_are_kept_by_position(self):
        for name, parameters in PARAMETERS.items():
            values = [object() for _ in parameters]
            error = getattr(errors, name)(*values)
            for parameter, value in zip(parameters, values):
                self.assertIs(getattr(error, parameter), value, (name, parameter))

    def test_the_parameters_are_kept_by_name(self):
        for name, parameters in PARAMETERS.items():
            values = {parameter: [parameter] for parameter in parameters}
            error = getattr(errors, name)(**values)
            self.assertEqual(vars(error), values, name)
            for parameter, value in values.items():
                self.assertIs(getattr(error, parameter), value, (name, parameter))

    def test_they_take_no_more_and_no_less(self):
        for name, parameters in PARAMETERS.items():
            kind = getattr(errors, name)
            if parameters:
                with self.assertRaises(TypeError):
                    kind(*parameters[1:])
                with self.assertRaises(TypeError):
                    kind(*parameters, "more")

    def test_each_is_caught_by_its_own_name_and_as_unkept_error(self):
        for name, parameters in PARAMETERS.items():
            kind = getattr(errors, name)
            for caught in (kind, UnkeptError, ValueError):
                with self.assertRaises(caught):
                    raise kind(*parameters)
            for other in PARAMETERS:
                if other != name:
                    self.assertNotIsInstance(kind(*parameters), getattr(errors, other))


if __name__ == "__main__":
    unittest.main()

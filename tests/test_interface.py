"""[45] and [2]: each name stands in its file, each method in its class, with its parameters."""

import ast
import importlib
import inspect
import os
import unittest

PACKAGE = os.path.join(os.path.dirname(os.path.dirname(os.path.abspath(__file__))), "unkeptlines")

FUNCTIONS = {
    "variables": {"lines_of": "(addresses, line)"},
    "ways": {
        "neighbours": "(net, place)", "sum_of": "(net, way)", "lag": "(net, one, other)", "way": "(net, one, other)",
        "still": "(net)"},
    "clashes": {"meeting": "(net, one, n, other, m)", "clash": "(net)"},
    "dues": {"due": "(net, place, n)"},
    "machine": {"quietly": "(machine, deed)"},
    "runs": {"play": "(net, rows, *, eager=True, whole=True)"},
    "upkeep": {
        "next_upkeep": "(net, place, n, line)", "last_drop": "(net, place, n, line)",
        "first_access": "(net, place, n, line)"},
    "spells": {"spells": "(net, name, line, *, eager=True)", "endless": "(net, name, line)"},
    "faults": {"faults": "(net, order, *, eager=True, whole=True)"},
    "judging": {"is_right": "(net, *, eager=True, whole=True)"},
    "wrongs": {"wrong_run": "(net, fault, *, eager=True, whole=True)"},
    "judge": {"judge": "(net, *, eager=True, whole=True)"},
    "checker": {"holds": "(net, finding)"},
    "thirds": {"thirds": "(net)"},
    "flushes": {"flushed": "(net)", "mended": "(net, *, eager=True, whole=True)"},
    "laying": {"laid": "(net)", "pads": "(net)"},
    "logs": {
        "log_of": "(net, rows, *, eager=True, whole=True)",
        "explained": "(net, log, *, eager=True, whole=True, most=500)",
        "none_table": "(net, log, *, eager=True, whole=True, most=500)",
        "holds_none": "(net, log, table, *, eager=True, whole=True)"},
    "texts": {"net_text": "(net)", "read_net": "(text)"},
}

AGENT = {
    "__init__": "(self, name, *steps)", "made": "(cls, name, steps)", "may": "(self, word)",
    "with_steps": "(self, *steps)", "__len__": "(self)", "__getitem__": None, "__eq__": None}

CLASSES = {
    "variables": {"Variable": {
        "__init__": "(self, name, size, *at)", "made": "(cls, name, size, at)", "__len__": "(self)",
        "__getitem__": None, "__eq__": None}},
    "agents": {"Agent": AGENT, "Through": AGENT, "Back": AGENT},
    "signals": {"Signal": {"__init__": "(self, name, tokens=0)", "__eq__": None}},
    "nets": {"Net": {
        "__init__": "(self, *parts, line=8, ring=1)", "made": "(cls, parts, *, line=8, ring=1)", "__add__": None,
        "__contains__": None, "__getitem__": None, "__len__": "(self)", "__eq__": None, "with_line": "(self, line)",
        "with_agents": "(self, *agents)", "step": "(self, place)", "places": "(self)", "accesses": "(self)",
        "touched": "(self, place, n)", "lines": "(self, place, n)"}},
    "lags": {"Lag": {
        "__init__": "(self, rounds)", "none": "()", "__add__": None, "__eq__": None, "__lt__": None,
        "__bool__": "(self)"}},
    "orders": {
        "Order": {"__init__": "(self, net)", "ahead": "(self, one, n, other, m)", "lag": "(self, one, other)"},
        "Known": {
            "__init__": "(self, net, *ways)", "made": "(cls, net, ways)", "of": "(cls, net)",
            "ahead": "(self, one, n, other, m)", "lag": "(self, one, other)"}},
    "machine": {"Machine": {
        "__init__": "(self, net, *, eager=True, whole=True)", "step": "(self, name)", "fetch": "(self, name, line)",
        "write_back": "(self, name, line)", "discard": "(self, name, line)", "memory": "(self, address)",
        "last": "(self, address)", "held": "(self, name, line)", "changed": "(self, name, line)",
        "next_of": "(self, name)", "can": "(self, name)", "left": "(self, signal)", "acts": None, "wrong": None,
        "twin": "(self)", "quiet": "(self)"}},
    "faults": {"Fault": {"__eq__": None, "__lt__": None}},
    "findings": {
        "Finding": {"__eq__": None, "__bool__": "(self)"},
        "Still": {"__init__": "(self, ring)", "__eq__": None, "__bool__": "(self)"},
        "Clash": {"__init__": "(self, one, other, run)", "__eq__": None, "__bool__": "(self)"},
        "Wrong": {"__init__": "(self, rows, eager, whole)", "__eq__": None, "__bool__": "(self)"},
        "Right": {"__init__": "(self, steps, ways, eager, whole)", "__eq__": None, "__bool__": "(self)"}},
    "desk": {"Desk": {"__init__": "(self)", "current": None, "say": "(self, row)"}},
    "errors": {name: {} for name in (
        "UnkeptError", "NoPart", "NoNet", "NoName", "NoStep", "NoWay", "Stands", "Clashes", "Blocked", "NoDeed",
        "NoRun", "NoMend", "NoLaying", "TooMany", "NoText", "NoRow")},
}

CLASS_METHODS = (("variables", "Variable", "made"), ("agents", "Agent", "made"), ("agents", "Through", "made"),
                 ("agents", "Back", "made"), ("nets", "Net", "made"), ("orders", "Known", "made"),
                 ("orders", "Known", "of"))


def bodies(module, kind):
    """The functions or classes that stand at the top of a file, by name."""
    with open(os.path.join(PACKAGE, module + ".py"), encoding="utf-8") as file:
        tree = ast.parse(file.read())
    return {node.name: node for node in tree.body if isinstance(node, kind)}


class Interface(unittest.TestCase):
    def test_functions(self):
        for module, functions in FUNCTIONS.items():
            there = bodies(module, ast.FunctionDef)
            for name, parameters in functions.items():
                self.assertIn(name, there)
                function = getattr(importlib.import_module("unkeptlines." + module), name)
                self.assertEqual(str(inspect.signature(function)), parameters)

    def test_classes(self):
        for module, classes in CLASSES.items():
            there = bodies(module, ast.ClassDef)
            for name, methods in classes.items():
                self.assertIn(name, there)
                own = {node.name for node in there[name].body if isinstance(node, ast.FunctionDef)}
                told = getattr(importlib.import_module("unkeptlines." + module), name)
                for method, parameters in methods.items():
                    self.assertIn(method, own, name)
                    if parameters is not None:
                        function = inspect.getattr_static(told, method)
                        function = getattr(function, "__func__", function)
                        self.assertEqual(str(inspect.signature(function)), parameters, (name, method))

    def test_properties(self):
        machine = importlib.import_module("unkeptlines.machine").Machine
        for name in ("acts", "wrong"):
            self.assertIsInstance(vars(machine)[name], property)
        self.assertIsInstance(vars(importlib.import_module("unkeptlines.desk").Desk)["current"], property)

    def test_class_methods(self):
        for module, name, method in CLASS_METHODS:
            told = getattr(importlib.import_module("unkeptlines." + module), name)
            self.assertIsInstance(vars(told)[method], classmethod)


if __name__ == "__main__":
    unittest.main()

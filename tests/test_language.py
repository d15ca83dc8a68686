"""A part of the rules of the language that the package is written in, by their numbers."""

import ast
import builtins
import io
import os
import re
import tokenize
import unittest

from walked import changes_in_walks, functions, generators, name_called

PACKAGE = os.path.join(os.path.dirname(os.path.dirname(os.path.abspath(__file__))), "unkeptlines")

BUILTINS = set(
    "len range enumerate zip min max sum abs sorted reversed int str bool bytes list tuple dict set frozenset "
    "isinstance ord repr any all divmod iter next map super property staticmethod classmethod object "
    "ValueError TypeError KeyError NotImplemented".split())
DOUBLES = set(
    "__init__ __eq__ __repr__ __str__ __len__ __enter__ __exit__ __call__ __iter__ __lt__ __le__ __gt__ __ge__ __ne__ "
    "__add__ __sub__ __mul__ __bool__ __contains__ __getitem__ __setitem__".split())
METHODS = set(
    "append clear copy count endswith extend find get index insert isalnum isalpha isdigit islower isspace isupper "
    "items join keys ljust lower lstrip partition pop remove replace reverse rfind rjust rpartition rsplit rstrip "
    "setdefault split splitlines startswith strip update upper values zfill bit_length add discard".split())
LIBRARY = {"heapq", "math", "itertools"}
WORDS = set(
    "type typing typing_extensions enum Enum IntEnum StrEnum Flag IntFlag Generic Protocol ABC ABCMeta namedtuple "
    "NamedTuple TypedDict TYPE_CHECKING abstractmethod dataclass overload contextmanager".split())
NEVER = set(
    "register mro elements open input law version_info with_traceback add_note eval exec compile getattr setattr "
    "hasattr delattr globals locals vars dir id help exit quit breakpoint gc os sys".split())
STATEMENTS = (
    ast.Assign, ast.AugAssign, ast.AnnAssign, ast.If, ast.While, ast.For, ast.Return, ast.Break, ast.Continue, ast.Pass,
    ast.Raise, ast.Assert, ast.Delete, ast.Nonlocal, ast.Match, ast.With, ast.Expr, ast.Try, ast.FunctionDef)


def files():
    for name in sorted(os.listdir(PACKAGE)):
        if name != "__pycache__":
            with open(os.path.join(PACKAGE, name), encoding="utf-8") as file:
                yield name, file.read()


def strings(text):
    """The tokens of a text that are no comments; docstrings are strings like others."""
    return [token for token in tokenize.generate_tokens(io.StringIO(text).readline) if token.type != tokenize.COMMENT]


def docstrings(tree):
    rows = []
    for node in ast.walk(tree):
        if isinstance(node, (ast.Module, ast.ClassDef, ast.FunctionDef)) and ast.get_docstring(node, clean=False):
            rows.append(node.body[0].lineno)
    return rows


class Language(unittest.TestCase):
    def setUp(self):
        self.files = list(files())
        self.trees = [(name, ast.parse(text)) for name, text in self.files]

    def test_l1_and_l14_files(self):
        self.assertIn("__init__.py", [name for name, _ in self.files])
        for name, text in self.files:
            self.assertRegex(name, r"\A[a-z_0-9]+\.py\Z")
            self.assertNotIn(name[:-3], dir(builtins))
            self.assertIsNone(re.search("[^ -~\n]", text), name)

    def test_l10_sizes(self):
        for name, text in self.files:
            rows = text.split("\n")
            self.assertLessEqual(len(rows), 399, name)
            for k, row in enumerate(rows):
                self.assertLessEqual(len(row), 120, (name, k + 1))
        for name, tree in self.trees:
            for node in functions(tree):
                self.assertLessEqual(node.end_lineno - node.lineno + 1, 40, (name, node.name))

    def test_l2_and_l16_imports(self):
        follows = {}
        for name, tree in self.trees:
            top = [node for node in tree.body if isinstance(node, ast.ImportFrom)]
            everywhere = [node for node in ast.walk(tree) if isinstance(node, (ast.Import, ast.ImportFrom))]
            self.assertEqual(top, everywhere, name)
            for node in top:
                self.assertEqual(node.level, 0)
                self.assertTrue(node.module in LIBRARY or node.module.startswith("unkeptlines."), (name, node.module))
                self.assertTrue(all(one.asname is None and one.name != "*" for one in node.names))
                if node.module not in LIBRARY:
                    there = dict(self.trees)[node.module.split(".")[1] + ".py"]
                    own = [one.name for one in there.body if isinstance(one, (ast.FunctionDef, ast.ClassDef))]
                    own += [one.targets[0].id for one in there.body if isinstance(one, ast.Assign)]
                    for one in node.names:
                        self.assertIn(one.name, own, (name, node.module))
            follows[name] = {node.module.split(".")[1] + ".py" for node in top if node.module not in LIBRARY}
        while follows:
            free = [name for name in follows if not follows[name] & set(follows)]
            self.assertTrue(free, ("these import from each other", follows))
            follows = {name: follows[name] for name in follows if name not in free}

    def test_l3_module_level(self):
        for name, tree in self.trees:
            for k, node in enumerate(tree.body):
                if isinstance(node, ast.Expr):
                    self.assertTrue(k == 0 and isinstance(node.value, ast.Constant), (name, node.lineno))
                elif isinstance(node, ast.Assign):
                    self.assertEqual(len(node.targets), 1)
                    self.assertIsInstance(node.targets[0], ast.Name)
                    above = [one.name for one in tree.body[:k] if isinstance(one, ast.FunctionDef)]
                    self.check_value(node.value, above, name)
                else:
                    self.assertIsInstance(node, (ast.ImportFrom, ast.FunctionDef, ast.ClassDef), (name, node.lineno))

    def check_value(self, value, above, name):
        """A plain value, or a dict of functions that stand above it."""
        if isinstance(value, ast.Dict):
            for one in value.values:
                if isinstance(one, ast.Name):
                    self.assertIn(one.id, above, name)
                else:
                    ast.literal_eval(one)
        else:
            ast.literal_eval(value)

    def test_l6_statements(self):
        for name, tree in self.trees:
            for node in functions(tree):
                for part in ast.walk(node):
                    if isinstance(part, ast.stmt):
                        self.assertIsInstance(part, STATEMENTS, (name, part.lineno))

    def test_l4_and_l5_classes(self):
        decorators = ("property", "staticmethod", "classmethod")
        for name, tree in self.trees:
            for node in ast.walk(tree):
                if isinstance(node, (ast.FunctionDef, ast.ClassDef)):
                    self.assertTrue(all(isinstance(one, ast.Name) and one.id in decorators
                                        for one in node.decorator_list), (name, node.name))
                if isinstance(node, ast.ClassDef):
                    self.assertIn(node, tree.body)
                    own = [one.name for one in node.body if isinstance(one, ast.FunctionDef)]
                    self.assertEqual(len(own), len(set(own)), (name, node.name))
                    if "__getitem__" in own:
                        self.assertIn("__iter__", own, (name, node.name))

    def test_l5_and_l12_names(self):
        for name, tree in self.trees:
            for node in ast.walk(tree):
                told = [getattr(node, field, None) for field in ("id", "attr", "arg", "name")]
                for word in [word for word in told if isinstance(word, str)]:
                    if word.startswith("__"):
                        self.assertIn(word, DOUBLES, (name, word))
                    self.assertNotIn(word, NEVER, name)

    def test_l8_builtins(self):
        for name, tree in self.trees:
            for node in ast.walk(tree):
                if isinstance(node, ast.Name) and node.id in dir(builtins):
                    self.assertIn(node.id, BUILTINS, (name, node.lineno))
                    self.assertIsInstance(node.ctx, ast.Load, (name, node.lineno))
                if isinstance(node, ast.arg):
                    self.assertNotIn(node.arg, dir(builtins), name)

    def test_l7_expressions(self):
        barred = (ast.Div, ast.MatMult, ast.Await)
        for name, tree in self.trees:
            for node in ast.walk(tree):
                self.assertNotIsInstance(node, barred, (name, getattr(node, "lineno", None)))
                if isinstance(node, ast.Constant):
                    self.assertNotIsInstance(node.value, (float, complex))
                if isinstance(node, ast.Call) and getattr(node.func, "id", None) in (
                        "any", "all", "min", "max", "sum", "sorted"):
                    # Some classes have __eq__: so these take a list.
                    self.assertFalse([one for one in node.args if isinstance(one, ast.GeneratorExp)], (name, node.lineno))

    def test_l15_names_of_imports_and_classes(self):
        for name, tree in self.trees:
            taken = {one.name for node in tree.body if isinstance(node, ast.ImportFrom) for one in node.names}
            taken |= {node.name for node in tree.body if isinstance(node, ast.ClassDef)}
            for node in ast.walk(tree):
                if isinstance(node, ast.arg):
                    self.assertNotIn(node.arg, taken, name)
                if isinstance(node, ast.Name) and isinstance(node.ctx, ast.Store):
                    self.assertNotIn(node.id, taken, (name, node.lineno))

    def test_l17_words(self):
        for name, text in self.files:
            there = docstrings(ast.parse(text))
            for token in strings(text):
                if token.type == tokenize.STRING and token.start[0] in there:
                    continue
                for word in re.findall("[A-Za-z_]+", token.string):
                    self.assertNotIn(word, WORDS, (name, token.start))

    def test_l18_names_of_methods(self):
        """No class has a method and an attribute of one name; a property has the name of no method at all."""
        methods, properties = set(), set()
        for name, tree in self.trees:
            for node in tree.body:
                if isinstance(node, ast.ClassDef):
                    own = {one.name for one in node.body if isinstance(one, ast.FunctionDef)}
                    fields = {one.attr for one in ast.walk(node)
                              if isinstance(one, ast.Attribute) and isinstance(one.ctx, ast.Store)}
                    self.assertFalse(own & fields, (name, node.name))
                    for one in node.body:
                        if isinstance(one, ast.FunctionDef):
                            kinds = [deco.id for deco in one.decorator_list]
                            (properties if "property" in kinds else methods).add(one.name)
        self.assertFalse(properties & methods)

    def test_l23_generators(self):
        """The name of a generator is the name of nothing else that is called, and its call is iterated at once."""
        found = generators([tree for _, tree in self.trees])
        all_names = [node.name for _, tree in self.trees for node in functions(tree)]
        for one in found:
            self.assertEqual(all_names.count(one), 1, one)
        for name, tree in self.trees:
            allowed = set()
            for node in ast.walk(tree):
                if isinstance(node, (ast.For, ast.comprehension)):
                    allowed.add(node.iter)
                if isinstance(node, ast.Call) and getattr(node.func, "id", None) in ("list", "tuple"):
                    allowed |= set(node.args)
            for node in ast.walk(tree):
                if name_called(node) in found:
                    self.assertIn(node, allowed, (name, node.lineno))

    def test_l23_walked_generators(self):
        """Nothing is changed while a generator is walked: rows = list(..) stands in a row of its own first."""
        trees = [tree for _, tree in self.trees]
        self.assertLessEqual({"places", "accesses", "faults", "spells", "thirds", "third_pairs"}, generators(trees))
        for name, tree in self.trees:
            self.assertEqual(changes_in_walks(tree, trees), [], name)

    def test_l5_with(self):
        """What stands in __exit__ is only the assignment of attributes."""
        for name, tree in self.trees:
            for node in functions(tree):
                if node.name == "__exit__":
                    for row in node.body:
                        self.assertIsInstance(row, ast.Assign, (name, row.lineno))
                        self.assertIsInstance(row.value, ast.Attribute, (name, row.lineno))

    def test_l20_is(self):
        for name, tree in self.trees:
            for node in ast.walk(tree):
                if isinstance(node, ast.Compare):
                    for sign, right in zip(node.ops, node.comparators):
                        if isinstance(sign, (ast.Is, ast.IsNot)):
                            self.assertIsInstance(right, ast.Constant, (name, node.lineno))

    def test_l25_methods(self):
        own = set()
        for _, tree in self.trees:
            own |= {node.name for node in functions(tree)}
        for name, tree in self.trees:
            for node in ast.walk(tree):
                if isinstance(node, ast.Call) and isinstance(node.func, ast.Attribute):
                    self.assertIn(node.func.attr, own | METHODS, (name, node.lineno))

    def test_l27_strings(self):
        for name, tree in self.trees:
            for node in ast.walk(tree):
                if isinstance(node, ast.Constant) and isinstance(node.value, str):
                    self.assertNotIn("%", node.value, name)

    def test_sets_are_sorted_at_once(self):
        """L24: the package stores no set."""
        for name, tree in self.trees:
            for node in ast.walk(tree):
                if isinstance(node, ast.Call):
                    for one in node.args:
                        is_set = isinstance(one, ast.Call) and isinstance(one.func, ast.Name) and one.func.id == "set"
                        if is_set:
                            self.assertIn(getattr(node.func, "id", None), ("sorted", "len"), (name, node.lineno))
                self.assertNotIsInstance(node, (ast.Set, ast.SetComp), name)


if __name__ == "__main__":
    unittest.main()

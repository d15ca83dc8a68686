"""[31]: the classes of findings."""

import copy
import unittest

from helpers import ANY, FILL, Case
from unkeptlines.findings import Clash, Finding, Right, Still, Wrong
from unkeptlines.judge import judge

FIELDS = ((Still, ("ring",)), (Clash, ("one", "other", "run")), (Wrong, ("rows", "eager", "whole")),
          (Right, ("steps", "ways", "eager", "whole")))
WORDS = {Still: "still", Clash: "clash", Wrong: "wrong", Right: "right"}


def all_alike(value):
    """A finding of each class, with this value in all fields."""
    return [kind(*[value] * len(names)) for kind, names in FIELDS]


class Findings(Case):
    def test_class_tree(self):
        for kind, _ in FIELDS:
            self.assertTrue(issubclass(kind, Finding))
            self.assertEqual(kind.__bases__, (Finding,))
            for other, _ in FIELDS:
                self.assertIs(issubclass(kind, other), kind is other)

    def test_fields_are_kept_as_they_are(self):
        for kind, names in FIELDS:
            for value in ANY:
                values = [[value, k] for k in range(len(names))]
                for one in (kind(*values), kind(**dict(zip(names, values)))):
                    self.assertIs(type(one), kind)
                    for name, told in zip(names, values):
                        self.assertIs(getattr(one, name), told)
                        self.assertIn(name, vars(one))

    def test_words_and_truth(self):
        for value in (None, (), 0, "x"):
            for one in all_alike(value):
                self.assertEqual(one.word, WORDS[type(one)])
                self.assertIn("word", vars(one))
                self.assertIs(bool(one), type(one) is Right)

    def test_equal(self):
        for value in ANY:
            for one, other in zip(all_alike(value), all_alike(copy.deepcopy(value))):
                self.assertIs(one == other, True)
                self.assertIs(one != other, False)
                self.assertIs(one == one, True)

    def test_each_field_counts(self):
        for kind, names in FIELDS:
            for k in range(len(names)):
                values = [()] * len(names)
                values[k] = ((0, 0),)
                self.assertIs(kind(*values) == kind(*[()] * len(names)), False)
                self.assertIs(kind(*[()] * len(names)) == kind(*values), False)
                self.assertIs(kind(*values) != kind(*[()] * len(names)), True)

    def test_fields_are_equal_by_their_sign(self):
        self.assertEqual(Wrong((), True, False), Wrong((), 1, 0))
        self.assertNotEqual(Wrong((), True, False), Wrong([], True, False))
        self.assertEqual(Right([1], {}, None, None), Right([True], {}, None, None))

    def test_nothing_else_is_equal(self):
        for value in ANY:
            findings = all_alike(value)
            for k, one in enumerate(findings):
                for j, other in enumerate(findings):
                    self.assertIs(one == other, k == j)
                for other in ANY + [FILL, one.word, (value,), Finding()]:
                    self.assertIs(one == other, False)
                    self.assertIs(other == one, False)
                    self.assertIs(one != other, True)
        # The same fields in another class.
        self.assertIs(Clash((), True, True) == Wrong((), True, True), False)
        self.assertIs(Wrong((), True, True) == Clash((), True, True), False)

    def test_what_all_have_in_common(self):
        """Finding itself is a class of its own: it is equal to none of the four, and tells nothing right."""
        self.assertIs(Finding() == Finding(), True)
        self.assertIs(Finding() == 0, False)
        self.assertIs(Finding() != Right((), (), True, True), True)
        self.assertIs(bool(Finding()), False)

    def test_what_judge_returns(self):
        self.assertEqual(judge(FILL), judge(copy.deepcopy(FILL)))
        self.assertNotEqual(judge(FILL), judge(FILL, whole=False))


if __name__ == "__main__":
    unittest.main()

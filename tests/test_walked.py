"""What the test of rule L23 refuses of loops and comprehensions over a generator, and what it lets stand."""

import ast
import re
import unittest

from test_language import files
from walked import changes_in_walks

START = """
def steps(xs):
    for x in xs:
        yield x

def put(box, x):
    box.x = x

def made(x):
    rows = []
    rows.append(x)
    return rows

def walked(xs, box, d):
    k = 0
"""
CHANGES = (
    "d[x] = True", "d[x] += 1", "d[1:2] = [x]", "box.x = x", "box.x += 1", "del d[x]", "xs += [x]", "k, d[x] = x, k",
    "k = d[x] = x", "xs.append(x)", "box.rows.extend([x])", "d.setdefault(x, {})", "d.setdefault(x, {})[x] = True",
    "d.pop(x)", "xs.sort()", "box.add(x)", "heappush(xs, x)", "put(box, x)")


def told(*rows):
    """The indexes of those of some rows of a function in which something is changed in a walk."""
    tree = ast.parse(START + "".join("    " + row + "\n" for row in rows))
    first = START.count("\n") + 1
    return [row - first for row in changes_in_walks(tree, [tree])]


class Walked(unittest.TestCase):
    def test_loops(self):
        for head in ("for x in steps(xs):", "for k, x in enumerate(steps(xs)):", "for x in list(steps(xs)):",
                     "for x in box.steps(xs):", "for x in [x for x in steps(xs)]:", "for x in sorted(steps(xs)):"):
            for change in CHANGES:
                self.assertEqual(told(head, "    " + change), [1], (head, change))

    def test_changes_further_in(self):
        for change in CHANGES:
            self.assertEqual(told("for x in steps(xs):", "    if x:", "        " + change), [2], change)
            self.assertEqual(told("for x in steps(xs):", "    for y in x:", "        " + change), [2], change)
            self.assertEqual(told("for x in d:", "    for y in steps(xs):", "        " + change), [2], change)
        self.assertEqual(told("for x in steps(xs):", "    d[x] = x", "    k += 1", "    xs.append(x)"), [1, 3])

    def test_comprehensions(self):
        for row in ("[xs.append(x) for x in steps(xs)]", "{x: d.pop(x) for x in steps(xs)}",
                    "[x for x in steps(xs) if d.setdefault(x, 1)]", "[y for x in steps(xs) for y in d.pop(x)]",
                    "{d.pop(x) for x in steps(xs)}", "list(put(box, x) for x in steps(xs))"):
            self.assertEqual(told(row), [0], row)

    def test_what_may_stand(self):
        for row in ("k = x", "k += 1", "return x", "yield x", "k = d[x] + box.x", "k = made(x)", "k = d.get(x)"):
            self.assertEqual(told("for x in steps(xs):", "    " + row), [], row)
        for row in ("[d[x] for x in steps(xs) if x in d]", "xs.append(list(steps(xs)))",
                    "d[k] = [x for x in steps(xs)]"):
            self.assertEqual(told(row), [], row)
        for change in CHANGES:
            self.assertEqual(told("rows = list(steps(xs))", "for x in rows:", "    " + change), [], change)
            self.assertEqual(told("for x in made(xs):", "    " + change), [], change)

    def test_loops_of_the_package(self):
        """Loops that take their rows first would be refused if they walked the generator itself."""
        texts = dict(files())
        trees = [ast.parse(text) for text in texts.values()]
        for name, called, many in (
                ("laying.py", "third_pairs(net, order)", 3), ("thirds.py", "net.accesses()", 2),
                ("writes.py", "net.accesses()", 1), ("orders.py", "net.places()", 1), ("ways.py", "net.places()", 1)):
            taken = r" (\w+) = list\(" + re.escape(called) + r"\)\n( +for .* in )\1:"
            text = re.sub(taken, r" pass\n\2" + called + ":", texts[name])
            self.assertNotEqual(text, texts[name])
            self.assertEqual(len(changes_in_walks(ast.parse(text), trees)), many, name)


if __name__ == "__main__":
    unittest.main()

"""What is changed while a generator is walked: rule L23 of the language, as rows of the code that break it."""

import ast

CHANGING = set("append clear extend insert pop remove reverse setdefault update sort add discard".split())
HEAPS = {"heappush", "heappop", "heapify", "heapreplace", "heappushpop"}
COMPREHENSIONS = (ast.ListComp, ast.SetComp, ast.DictComp, ast.GeneratorExp)


def functions(tree):
    return [node for node in ast.walk(tree) if isinstance(node, ast.FunctionDef)]


def name_called(node):
    """The name by which something is called; None for what is no call."""
    if not isinstance(node, ast.Call):
        return None
    return getattr(node.func, "id", getattr(node.func, "attr", None))


def generators(trees):
    """The names of the functions and methods that yield."""
    return {node.name for tree in trees for node in functions(tree)
            if any(isinstance(one, (ast.Yield, ast.YieldFrom)) for one in ast.walk(node))}


def changed_by(node):
    """The nodes that a node itself changes: items, slices, attributes, and what a method or a heap changes."""
    if isinstance(node, (ast.Subscript, ast.Attribute)) and isinstance(node.ctx, (ast.Store, ast.Del)):
        return [node]
    if isinstance(node, ast.AugAssign) and isinstance(node.target, ast.Name):
        # A number is another one afterwards, but a list is the same one.
        return [] if isinstance(node.value, ast.Constant) else [node.target]
    if name_called(node) in CHANGING and isinstance(node.func, ast.Attribute):
        return [node.func.value]
    return node.args[:1] if name_called(node) in HEAPS else []


def root_of(node):
    """The node at the very left of attributes, items and calls."""
    while isinstance(node, (ast.Attribute, ast.Subscript, ast.Call)):
        node = node.func if isinstance(node, ast.Call) else node.value
    return node


def is_changer(function):
    """Whether a function changes, by itself, something that it is handed."""
    handed = {one.arg for one in ast.walk(function.args) if isinstance(one, ast.arg)}
    roots = [root_of(one) for node in ast.walk(function) for one in changed_by(node)]
    return any(isinstance(root, ast.Name) and root.id in handed for root in roots)


def changers(trees):
    """The names of own functions and methods that change what they are handed, whichever of them is meant."""
    own = [node for tree in trees for node in functions(tree)]
    return {node.name for node in own if is_changer(node)} - {node.name for node in own if not is_changer(node)}


def walks(tree):
    """Each loop and comprehension, as (what it iterates over, what is done meanwhile)."""
    for node in ast.walk(tree):
        if isinstance(node, ast.For):
            yield [node.iter], node.body
        elif isinstance(node, COMPREHENSIONS):
            yield [one.iter for one in node.generators], [node]


def changes_in_walks(tree, trees):
    """The rows of a tree with what is changed while a generator of the trees is walked, ascending.

    It is not asked here what the generator was handed: whatever is changed, list(..) in a row ahead is asked for.
    """
    names, own = generators(trees), changers(trees)
    rows = set()
    for heads, done in walks(tree):
        if any(name_called(node) in names for head in heads for node in ast.walk(head)):
            parts = [part for node in done for part in ast.walk(node)]
            rows |= {part.lineno for part in parts if changed_by(part) or name_called(part) in own}
    return sorted(rows)

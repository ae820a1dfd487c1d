"""Rules L5 and L28: what operators, properties and the like reach changes nothing but what it created itself."""

import ast
import unittest

from tests.test_language import package_files

MAKERS = {"list", "dict", "set", "sorted"}
CHANGERS = {"append", "pop", "extend", "insert", "remove", "clear", "reverse", "sort", "update", "setdefault", "add",
            "discard"}


def functions_of(tree):
    return {row.name: row for row in tree.body if isinstance(row, ast.FunctionDef)}


def methods_of(tree):
    """(class, method) for each method of the file."""
    return [(row, own) for row in tree.body if isinstance(row, ast.ClassDef)
            for own in row.body if isinstance(own, ast.FunctionDef)]


def is_run_by_a_sign(method):
    """Whether Python calls the method by an operator, by len or the like, or when an attribute is read."""
    return bool(method.decorator_list) or method.name.startswith("__") and method.name != "__init__"


class Package:
    """Which function calls which, by names alone."""

    def __init__(self, sources):
        self.trees = {name: ast.parse(source) for name, source in sources.items()}
        self.methods = {}
        for name, tree in self.trees.items():
            for owner, method in methods_of(tree):
                self.methods.setdefault(method.name, []).append((name, method))

    def named(self, name, word):
        """The functions that a word in this file may mean; for a class the one that makes its objects."""
        tree = self.trees[name]
        if word in functions_of(tree):
            return [(name, functions_of(tree)[word])]
        makers = [(name, method) for owner, method in methods_of(tree) if (owner.name, method.name) == (word, "__init__")]
        for row in tree.body:
            if isinstance(row, ast.ImportFrom) and row.module.startswith("regroups."):
                if word in [alias.name for alias in row.names]:
                    return self.named(row.module.split(".", 1)[1], word)
        return makers

    def reached(self):
        """(file, function) for all that is reached by a sign."""
        waiting = [(name, method) for name, tree in self.trees.items() for owner, method in methods_of(tree)
                   if is_run_by_a_sign(method)]
        found = []
        while waiting:
            name, function = waiting.pop()
            if function in [own for _, own in found]:
                continue
            found.append((name, function))
            called = [id(node.func) for node in ast.walk(function) if isinstance(node, ast.Call)]
            for node in ast.walk(function):
                if isinstance(node, ast.Name):
                    # A class that is named, but not called, makes no object.
                    waiting += [(file, own) for file, own in self.named(name, node.id)
                                if id(node) in called or own.name != "__init__"]
                elif isinstance(node, ast.Attribute):
                    waiting += self.methods.get(node.attr, [])
        return found


def changes_in(function):
    """(root, depth) for all that the function changes: 1 for an item of the root, 2 for an item of an item, and so on."""
    for node in ast.walk(function):
        if isinstance(node, (ast.Assign, ast.Delete)):
            targets = node.targets
        elif isinstance(node, (ast.AugAssign, ast.AnnAssign)):
            targets = [node.target]
        elif isinstance(node, ast.Call) and isinstance(node.func, ast.Attribute) and node.func.attr in CHANGERS:
            targets = [ast.Subscript(node.func.value, None, ast.Store())]
        else:
            continue
        for target in targets:
            for part in ast.walk(target) if isinstance(target, (ast.Tuple, ast.List)) else [target]:
                if isinstance(part, ast.Attribute) and isinstance(part.ctx, ast.Store):
                    yield part.value, 0
                elif isinstance(part, ast.Subscript) and isinstance(part.ctx, (ast.Store, ast.Del)):
                    depth = 0
                    while isinstance(part, ast.Subscript):
                        part, depth = part.value, depth + 1
                    yield part, depth


def is_new(value):
    """Whether the value is made on the spot, as the rule lists it."""
    if isinstance(value, ast.BinOp):
        return isinstance(value.op, (ast.Add, ast.Mult)) and (is_new(value.left) or is_new(value.right))
    if isinstance(value, ast.Subscript):
        return isinstance(value.slice, ast.Slice)
    if isinstance(value, ast.Call):
        return getattr(value.func, "id", "") in MAKERS or getattr(value.func, "attr", "") == "copy"
    return isinstance(value, (ast.List, ast.ListComp, ast.Dict, ast.DictComp, ast.Set, ast.SetComp))


def has_new_items(value):
    """Whether all its items are lists or dicts made on the spot; what is [0] * n by itself does not count."""
    items = [value.elt] if isinstance(value, ast.ListComp) else value.elts if isinstance(value, ast.List) else [None]
    return all(is_new(item) and not isinstance(item, (ast.BinOp, ast.Subscript)) for item in items)


def values_of(function, name):
    """All that the function assigns to the name; None for what is not told by one value."""
    found = []
    for node in ast.walk(function):
        if isinstance(node, ast.Assign):
            for target in node.targets:
                if isinstance(target, ast.Tuple) and isinstance(node.value, ast.Tuple):
                    found += [value for own, value in zip(target.elts, node.value.elts) if getattr(own, "id", "") == name]
                elif isinstance(target, ast.Name) and target.id == name:
                    found.append(node.value)
                elif name in [own.id for own in ast.walk(target)
                              if isinstance(own, ast.Name) and isinstance(own.ctx, ast.Store)]:
                    found.append(None)
        elif isinstance(node, (ast.For, ast.comprehension)):
            found += [None for own in ast.walk(node.target) if isinstance(own, ast.Name) and own.id == name]
        elif isinstance(node, ast.arg) and node.arg == name:
            found.append(None)
    return found


def faults_of(sources):
    """The functions that are reached by a sign and change what they did not surely create, with the line."""
    found = []
    for name, function in Package(sources).reached():
        yields = any(isinstance(node, (ast.Yield, ast.YieldFrom)) for node in ast.walk(function))
        for root, depth in changes_in(function):
            if depth == 0 and function.name == "__init__":
                continue
            values = values_of(function, root.id) if isinstance(root, ast.Name) else []
            fits = {1: is_new, 2: has_new_items}.get(depth)
            if yields or fits is None or not values or not all([fits(value) for value in values]):
                found.append((name, function.name, root.lineno))
    return found


class OperatorsTest(unittest.TestCase):
    def test_they_change_only_what_they_created(self):
        sources = {path.stem: path.read_text() for path in package_files()}
        reached = [(name, function.name) for name, function in Package(sources).reached()]
        for wanted in (("finder", "__eq__"), ("finder", "_barred_by"), ("ways", "ways_without"), ("ways", "rows_at"),
                       ("between", "weight"), ("groupings", "of_reaches")):
            self.assertIn(wanted, reached)
        self.assertEqual(faults_of(sources), [])

    def check(self, row, faults):
        source = "class Box:\n    def __eq__(self, other):\n        return told(self, other)\ndef told(rows, k):\n    " + row
        self.assertEqual([line for name, function, line in faults_of({"box": source})], faults, row)

    def test_what_may_be_changed(self):
        for made in ("[]", "[0] * k", "list(rows)", "rows[1:]", "[k for k in rows]", "rows + [1]", "sorted(rows)"):
            self.check(f"xs = {made}\n    xs[0] = k\n    xs.append(k)\n    del xs[0]", [])
        for made in ("[[] for j in rows]", "[list(j) for j in rows]", "[[0 for i in rows] for j in rows]", "[[], {}]"):
            self.check(f"xs = {made}\n    xs[0][k] = k\n    xs[k].append(k)", [])
        self.check("xs, k = [[] for j in rows], 0\n    xs[0][k] = k", [])

    def test_what_may_not_be_changed(self):
        for change in ("rows[0] = k", "rows.append(k)", "del rows[k]", "rows.held = k", "k = rows[0] = 1"):
            self.check(change, [5])
        for made in ("rows", "rows[0]", "told(k)", "[[0] * k for j in rows]", "[rows for j in rows]", "[[]] * k", "{}"):
            self.check(f"xs = {made}\n    xs[0][k] = 1", [6])
        for made in ("rows", "rows[0]", "told(k)", "(1, 2)"):
            self.check(f"xs = {made}\n    xs[0] = 1", [6])
        self.check("xs = []\n    xs = rows\n    xs[0] = 1", [7])
        self.check("for xs in rows:\n        xs[0] = 1", [6])
        self.check("xs = []\n    xs[0] = 1\n    yield xs", [6])


if __name__ == "__main__":
    unittest.main()

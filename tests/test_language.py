"""What can be seen at once of the language rules, in every file of the package."""

import ast
import builtins
import pathlib
import re
import unittest
import warnings

PACKAGE = pathlib.Path(__file__).resolve().parent.parent / "regroups"
BUILTINS = set("""
    len range enumerate zip min max sum abs sorted reversed int str bool list tuple dict set frozenset isinstance ord
    repr any all divmod pow getattr hasattr setattr iter next map property staticmethod classmethod super
    Exception ValueError TypeError KeyError IndexError LookupError ZeroDivisionError ArithmeticError OverflowError
    RuntimeError NotImplementedError AttributeError StopIteration NotImplemented object
""".split())
LIBRARY = {
    "heapq": {"heappush", "heappop", "heapify", "heapreplace", "heappushpop"},
    "math": {"gcd", "lcm", "isqrt", "comb", "perm", "factorial"},
    "itertools": {"product", "combinations", "permutations", "chain", "accumulate", "pairwise", "islice", "zip_longest"},
    "collections": {"defaultdict"},
}
BARRED_NODES = (ast.Global, ast.AsyncFunctionDef, ast.AsyncFor, ast.AsyncWith, ast.Await, ast.Div, ast.Import)
BARRED_WORDS = re.compile(r"\b(type|typing|enum|Enum|Flag|Generic|Protocol|ABC|namedtuple|NamedTuple)\b|dataclass")
TAKES_LISTS = {"any", "all", "min", "max", "sum", "sorted"}
KEPT_CALLS = {"zip", "enumerate", "reversed", "items", "keys", "values"}


def package_files():
    return sorted(path for path in PACKAGE.rglob("*") if path.is_file() and "__pycache__" not in path.parts)


def nodes_of(path):
    return list(ast.walk(ast.parse(path.read_text())))


def bound_names(nodes):
    """Each name that something in the file is called."""
    for node in nodes:
        if isinstance(node, (ast.FunctionDef, ast.ClassDef)):
            yield node.name
        elif isinstance(node, ast.arg):
            yield node.arg
        elif isinstance(node, ast.Name) and isinstance(node.ctx, ast.Store):
            yield node.id
        elif isinstance(node, ast.alias):
            yield node.asname or node.name


class LanguageTest(unittest.TestCase):
    def test_files(self):
        names = [path.name for path in package_files()]
        self.assertIn("__init__.py", names)
        for path in package_files():
            self.assertRegex(path.name, r"\A[a-z_][a-z0-9_]*\.py\Z")

    def test_characters_and_sizes(self):
        for path in package_files():
            text = path.read_bytes().decode("ascii")
            self.assertEqual([sign for sign in text if not (" " <= sign <= "~" or sign == "\n")], [], path.name)
            rows = text.split("\n")
            self.assertLessEqual(len(rows) - 1, 399, path.name)
            self.assertLessEqual(max(map(len, rows)), 120, path.name)
            for node in nodes_of(path):
                if isinstance(node, ast.FunctionDef):
                    self.assertLessEqual(node.end_lineno - node.lineno + 1, 40, node.name)

    def test_imports(self):
        for path in package_files():
            for node in nodes_of(path):
                if isinstance(node, ast.ImportFrom):
                    self.assertEqual(node.level, 0)
                    for alias in node.names:
                        self.assertNotEqual(alias.name, "*")
                        if not node.module.startswith("regroups."):
                            self.assertIn(alias.name, LIBRARY[node.module])
                        elif alias.asname is None:
                            source = PACKAGE / (node.module.split(".", 1)[1].replace(".", "/") + ".py")
                            defined = [own.name for own in nodes_of(source)
                                       if isinstance(own, (ast.FunctionDef, ast.ClassDef))]
                            self.assertIn(alias.name, defined, path.name)

    def test_no_ring_of_imports(self):
        needs = {path.stem: {node.module.split(".")[1] for node in nodes_of(path)
                             if isinstance(node, ast.ImportFrom) and node.module.startswith("regroups.")}
                 for path in package_files()}
        while needs:
            free = [name for name, needed in needs.items() if not needed & set(needs)]
            self.assertTrue(free, needs)
            for name in free:
                del needs[name]

    def test_statements_and_values(self):
        for path in package_files():
            for node in nodes_of(path):
                self.assertNotIsInstance(node, BARRED_NODES, path.name)
                if isinstance(node, ast.Constant):
                    self.assertNotIsInstance(node.value, (float, complex))
                    if isinstance(node.value, str):
                        self.assertNotIn("%", node.value)

    def test_nothing_is_kept_that_is_to_be_iterated_at_once(self):
        for path in package_files():
            for node in nodes_of(path):
                if isinstance(node, ast.Return) and isinstance(node.value, ast.Call):
                    name = getattr(node.value.func, "id", getattr(node.value.func, "attr", None))
                    self.assertNotIn(name, KEPT_CALLS | {"range"}, path.name)

    def test_what_is_called_over_all_takes_a_list(self):
        for path in package_files():
            for node in nodes_of(path):
                if isinstance(node, ast.Call) and getattr(node.func, "id", None) in TAKES_LISTS:
                    for value in node.args:
                        self.assertNotIsInstance(value, ast.GeneratorExp, path.name)

    def test_names(self):
        for path in package_files():
            nodes = nodes_of(path)
            bound = list(bound_names(nodes))
            for name in bound:
                self.assertNotIn(name, set(dir(builtins)), path.name)
                self.assertNotRegex(name, r"\A__(?!init__|eq__|repr__|str__|len__|iter__|contains__|getitem__)")
            for node in nodes:
                if isinstance(node, ast.Name) and node.id in dir(builtins):
                    self.assertIn(node.id, BUILTINS, path.name)

    def test_no_variable_has_the_name_of_an_import_or_a_class(self):
        for path in package_files():
            nodes = nodes_of(path)
            taken = {alias.name for node in nodes if isinstance(node, ast.ImportFrom) for alias in node.names}
            taken |= {node.name for node in nodes if isinstance(node, ast.ClassDef)}
            used = {node.arg for node in nodes if isinstance(node, ast.arg)}
            used |= {node.id for node in nodes if isinstance(node, ast.Name) and isinstance(node.ctx, ast.Store)}
            self.assertEqual(taken & used, set(), path.name)

    def test_a_property_has_its_name_for_itself(self):
        properties, methods, stored = set(), set(), set()
        for path in package_files():
            for node in nodes_of(path):
                if isinstance(node, ast.ClassDef):
                    for own in node.body:
                        if isinstance(own, ast.FunctionDef):
                            (properties if own.decorator_list else methods).add(own.name)
                elif isinstance(node, ast.Attribute) and isinstance(node.ctx, ast.Store):
                    stored.add(node.attr)
        self.assertEqual(properties & (methods | stored), set())
        for value in ("", 0, [], (), {}, set()):
            self.assertEqual(properties & set(dir(value)), set())
        self.assertNotIn("keys", methods | stored)

    def test_what_compares_and_measures_is_one_return(self):
        for path in package_files():
            for node in nodes_of(path):
                if isinstance(node, ast.FunctionDef) and node.name in ("__eq__", "__len__"):
                    self.assertEqual([type(row) for row in node.body], [ast.Return], path.name)
                if isinstance(node, ast.ClassDef):
                    names = [row.name for row in node.body if isinstance(row, ast.FunctionDef)]
                    self.assertEqual("__getitem__" in names and "__iter__" not in names, False, path.name)

    def test_generators_are_gone_through_at_once(self):
        generators = {own.name for path in package_files() for own in nodes_of(path)
                      if isinstance(own, ast.FunctionDef) and any(isinstance(row, ast.Yield) for row in ast.walk(own))}
        for path in package_files():
            nodes = nodes_of(path)
            heads = [id(node.iter) for node in nodes if isinstance(node, ast.For)]
            for node in nodes:
                if isinstance(node, ast.Call) and getattr(node.func, "id", None) in generators:
                    self.assertIn(id(node), heads, path.name)

    def test_words(self):
        for path in package_files():
            for node in nodes_of(path):
                for name in (getattr(node, "id", ""), getattr(node, "attr", ""), getattr(node, "name", "")):
                    self.assertIsNone(BARRED_WORDS.search(name or ""), path.name)

    def test_python_warns_of_no_line(self):
        for path in package_files():
            with warnings.catch_warnings():
                warnings.simplefilter("error")
                compile(path.read_text(), str(path), "exec")

    def test_module_level(self):
        plain = (ast.FunctionDef, ast.ClassDef, ast.ImportFrom, ast.Assign, ast.Expr)
        for path in package_files():
            rows = ast.parse(path.read_text()).body
            for row in rows:
                self.assertIsInstance(row, plain, path.name)
            self.assertTrue(isinstance(rows[0], ast.Expr) and isinstance(rows[0].value.value, str), path.name)
            names = [row.name for row in rows if isinstance(row, (ast.FunctionDef, ast.ClassDef))]
            self.assertEqual(len(names), len(set(names)), path.name)


if __name__ == "__main__":
    unittest.main()

"""Rules of the language that a test can see: the files of the package keep to a small part of Python."""

import ast
import builtins
import os
import re
import unittest

PACKAGE = os.path.join(os.path.dirname(os.path.dirname(os.path.abspath(__file__))), "heldparts")
BUILTINS = set(
    "len range enumerate zip min max sum abs sorted reversed int str bool bytes list tuple dict set frozenset "
    "isinstance ord repr any all divmod pow getattr hasattr setattr iter next map property staticmethod classmethod "
    "super Exception ValueError TypeError KeyError IndexError LookupError ZeroDivisionError ArithmeticError "
    "OverflowError RuntimeError NotImplementedError AttributeError StopIteration NotImplemented".split())
METHODS = set(
    "__init__ __eq__ __repr__ __str__ __len__ __enter__ __exit__ __call__ __iter__ __lt__ __le__ __gt__ __ge__ __ne__ "
    "__add__ __sub__ __mul__ __and__ __or__ __xor__ __contains__ __getitem__ __setitem__ __bool__".split())
LIBRARY = ("heapq", "math", "itertools", "collections", "__future__")
WORDS = set(
    "type typing typing_extensions enum Enum IntEnum StrEnum Flag Generic Protocol ABC ABCMeta namedtuple NamedTuple "
    "TypedDict TYPE_CHECKING abstractmethod register mro elements open input law version_info with_traceback "
    "add_note".split())
BARRED = (
    ast.Global, ast.AsyncFunctionDef, ast.Await, ast.AsyncFor, ast.AsyncWith, ast.Import, ast.Div, ast.GeneratorExp,
    ast.AnnAssign, ast.MatMult)


def sources():
    """The text of each file, by its path below the package."""
    found = {}
    for folder, folders, files in os.walk(PACKAGE):
        folders[:] = [name for name in folders if name != "__pycache__"]
        for name in files:
            path = os.path.join(folder, name)
            with open(path, encoding="utf-8") as file:
                found[os.path.relpath(path, PACKAGE)] = file.read()
    return found


class TestLanguage(unittest.TestCase):

    def setUp(self):
        self.sources = sources()
        self.trees = {path: ast.parse(text) for path, text in self.sources.items() if path.endswith(".py")}
        self.nodes = [(path, node) for path, tree in self.trees.items() for node in ast.walk(tree)]

    def test_files(self):
        self.assertIn("__init__.py", self.sources)
        for path, text in self.sources.items():
            self.assertRegex(path, r"\A(__init__|__main__|[a-z][a-z0-9_]*)\.py\Z")
            self.assertNotIn(path[:-3], dir(builtins))
            self.assertRegex(text, r"\A[ -~\n]*\Z")
            self.assertLess(text.count("\n"), 400)
            self.assertTrue(all(len(line) <= 120 for line in text.split("\n")), path)

    def test_sizes_of_functions(self):
        for path, node in self.nodes:
            if isinstance(node, ast.FunctionDef):
                self.assertLessEqual(node.end_lineno - node.lineno, 39, (path, node.name))

    def test_imports(self):
        needs = {}
        for path, tree in self.trees.items():
            needs[path[:-3]] = []
            for node in ast.walk(tree):
                if isinstance(node, ast.ImportFrom):
                    self.assertEqual(node.level, 0)
                    self.assertIn(node, tree.body)
                    if node.module in LIBRARY:
                        continue
                    self.assertTrue(node.module.startswith("heldparts."), (path, node.module))
                    needs[path[:-3]].append(node.module[len("heldparts."):])
                    self.assert_defined(node)
        while needs:
            free = [name for name in needs if not any(other in needs for other in needs[name])]
            self.assertNotEqual(free, [], "files import from each other")
            for name in free:
                del needs[name]

    def assert_defined(self, node):
        defined = set()
        for part in self.trees[node.module[len("heldparts."):] + ".py"].body:
            if isinstance(part, (ast.FunctionDef, ast.ClassDef)):
                defined.add(part.name)
            if isinstance(part, ast.Assign):
                defined.update(target.id for target in part.targets)
        for alias in node.names:
            self.assertIsNone(alias.asname)
            self.assertIn(alias.name, defined)

    def test_only_plain_statements_at_module_level(self):
        for path, tree in self.trees.items():
            for node in tree.body:
                docstring = node is tree.body[0] and isinstance(node, ast.Expr)
                plain = isinstance(node, (ast.ImportFrom, ast.FunctionDef, ast.ClassDef, ast.Assign))
                self.assertTrue(docstring or plain, (path, node.lineno))

    def test_parts_of_python_that_are_barred(self):
        for path, node in self.nodes:
            self.assertNotIsInstance(node, BARRED, (path, getattr(node, "lineno", 0)))
            if isinstance(node, ast.FunctionDef):
                for decorator in node.decorator_list:
                    self.assertIsInstance(decorator, ast.Name)
                    self.assertIn(decorator.id, ("classmethod", "staticmethod", "property"))
                if node.name.startswith("__"):
                    self.assertIn(node.name, METHODS)
            if isinstance(node, ast.ClassDef):
                self.assertEqual(node.decorator_list, [])
            if isinstance(node, ast.Constant) and isinstance(node.value, str):
                self.assertNotIn(chr(37), node.value, (path, node.lineno))
            if isinstance(node, ast.Constant):
                self.assertNotIsInstance(node.value, (float, complex))
            if isinstance(node, ast.ExceptHandler):
                self.assertNotIn(getattr(node.type, "id", ""), ("", "Exception", "TypeError", "BaseException"))

    def test_builtins(self):
        for path, node in self.nodes:
            if isinstance(node, ast.Name) and node.id in dir(builtins):
                self.assertIn(node.id, BUILTINS, (path, node.lineno))
                self.assertIsInstance(node.ctx, ast.Load, (path, node.lineno))
            if isinstance(node, ast.arg):
                self.assertNotIn(node.arg, dir(builtins), path)

    def test_names_and_words(self):
        for path, node in self.nodes:
            for name in (getattr(node, field, None) for field in ("id", "attr", "arg", "name")):
                if isinstance(name, str):
                    self.assertNotIn(name, WORDS, path)
                    self.assertTrue(re.fullmatch(r"_?[A-Za-z][A-Za-z0-9_]*|_|__[a-z]+__", name), (path, name))

    def test_names_that_are_given_no_second_meaning(self):
        for path, tree in self.trees.items():
            taken = {alias.name for node in ast.walk(tree) if isinstance(node, ast.ImportFrom) for alias in node.names}
            taken.update(node.name for node in tree.body if isinstance(node, ast.ClassDef))
            for node in ast.walk(tree):
                if isinstance(node, ast.Name) and isinstance(node.ctx, ast.Store):
                    self.assertNotIn(node.id, taken, path)
                if isinstance(node, ast.arg):
                    self.assertNotIn(node.arg, taken, path)

    def test_methods_and_attributes_have_names_of_their_own(self):
        methods, attributes = set(), set()
        for _, node in self.nodes:
            if isinstance(node, ast.ClassDef):
                methods.update(part.name for part in node.body if isinstance(part, ast.FunctionDef))
            if isinstance(node, ast.Attribute) and isinstance(node.ctx, ast.Store):
                attributes.add(node.attr)
        self.assertEqual(methods & attributes, set())
        known = {name for kind in (str, bytes, list, tuple, dict, set, int) for name in dir(kind) if name[:2] != "__"}
        self.assertEqual((methods | attributes) & known, set())

    def test_generators_are_iterated_at_once(self):
        found = {node.name for _, node in self.nodes if isinstance(node, ast.FunctionDef)
                 and any(isinstance(part, (ast.Yield, ast.YieldFrom)) for part in ast.walk(node))}
        heads = [node.iter for _, node in self.nodes if isinstance(node, (ast.For, ast.comprehension))]
        for path, node in self.nodes:
            if isinstance(node, ast.Call) and isinstance(node.func, ast.Name) and node.func.id in found:
                self.assertIn(node, heads, path)
                self.assertTrue(all(isinstance(part, (ast.Name, ast.Attribute)) for part in node.args), path)

    def test_patterns_are_plain(self):
        for path, node in self.nodes:
            if isinstance(node, ast.MatchSequence):
                for part in ast.walk(node):
                    self.assertFalse(isinstance(part, ast.MatchAs) and part.pattern is not None, path)
                    self.assertNotIsInstance(part, (ast.MatchValue, ast.MatchMapping, ast.MatchClass), path)

    def test_what_an_operator_runs_changes_only_what_it_made(self):
        # Stores are made by an operator, so all that makes them adds up plainly: x = x + y.
        for path, node in self.nodes:
            if isinstance(node, ast.AugAssign):
                self.assertIsInstance(node.op, (ast.Add, ast.Sub), path)
                self.assertIsInstance(node.value, ast.Constant, path)
                self.assertIsInstance(node.target, ast.Name, path)

    def test_dicts_are_not_sorted_in_place_and_sets_not_kept(self):
        for path, node in self.nodes:
            if isinstance(node, ast.Call) and isinstance(node.func, ast.Attribute):
                self.assertNotEqual(node.func.attr, "sort", path)
            if isinstance(node, (ast.For, ast.comprehension)):
                self.assertNotIsInstance(node.iter, (ast.Set, ast.SetComp), path)

    def test_generators_have_names_of_their_own(self):
        named = {}
        for path, node in self.nodes:
            if isinstance(node, ast.FunctionDef):
                named.setdefault(node.name, []).append((path, node))
        for name, places in named.items():
            if any(isinstance(part, (ast.Yield, ast.YieldFrom)) for _, node in places for part in ast.walk(node)):
                self.assertEqual(len(places), 1, name)
        for path, node in self.nodes:
            if isinstance(node, ast.Name) and isinstance(node.ctx, ast.Store):
                self.assertFalse(any(
                    isinstance(part, (ast.Yield, ast.YieldFrom)) for _, function in named.get(node.id, ())
                    for part in ast.walk(function)), (path, node.lineno))

    def test_behind_stars_stand_names(self):
        plain = (ast.Name, ast.Attribute, ast.Constant)
        for path, node in self.nodes:
            if isinstance(node, ast.Call) and any(isinstance(part, ast.Starred) for part in node.args):
                first = next(at for at, part in enumerate(node.args) if isinstance(part, ast.Starred))
                for part in node.args[first:]:
                    self.assertIsInstance(part.value if isinstance(part, ast.Starred) else part, plain, (path, node.lineno))
                self.assertEqual(node.keywords, [], (path, node.lineno))

    def test_what_is_iterated_at_once(self):
        heads = {id(node.iter) for _, node in self.nodes if isinstance(node, (ast.For, ast.comprehension))}
        inner = {id(part) for _, node in self.nodes if isinstance(node, ast.Call) and isinstance(node.func, ast.Name)
                 and node.func.id in ("list", "tuple", "dict", "sorted", "enumerate", "zip", "len") for part in node.args}
        for path, node in self.nodes:
            if isinstance(node, ast.Call):
                name = getattr(node.func, "id", getattr(node.func, "attr", ""))
                if name in ("zip", "enumerate", "reversed", "range", "items", "keys", "values"):
                    self.assertIn(id(node), heads | inner, (path, node.lineno))

    def test_where_sets_stand(self):
        for path, node in self.nodes:
            if isinstance(node, ast.Call):
                sets = [part for part in node.args if isinstance(part, (ast.Set, ast.SetComp))]
                if sets:
                    self.assertIn(node.func.id, ("sorted", "len"))
                    self.assertEqual(node.keywords, [], (path, node.lineno))
            elif not isinstance(node, (ast.Compare, ast.Expr)):
                for part in ast.iter_child_nodes(node):
                    self.assertNotIsInstance(part, (ast.Set, ast.SetComp), (path, getattr(node, "lineno", 0)))
            if isinstance(node, ast.Compare):
                for operator, part in zip(node.ops, node.comparators):
                    if isinstance(operator, (ast.Is, ast.IsNot)):
                        self.assertIn(part.value, (None, True, False), (path, node.lineno))

"""Holds the files of the package against those rules of LANGUAGE.md that a short test can see."""

import ast
import builtins
import os
import re
import unittest

FOLDER = os.path.join(os.path.dirname(os.path.dirname(os.path.abspath(__file__))), "everysource")

ALLOWED_BUILTINS = set(
    "len range enumerate zip min max sum abs sorted reversed int str bool bytes list tuple dict set frozenset isinstance "
    "ord repr any all divmod pow map iter next Exception ValueError TypeError KeyError IndexError LookupError "
    "ZeroDivisionError ArithmeticError OverflowError RuntimeError NotImplementedError AttributeError StopIteration "
    "NotImplemented".split())

LIBRARY = {
    "math": {"gcd", "lcm", "isqrt", "comb", "perm", "factorial"},
    "heapq": {"heappush", "heappop", "heapify", "heapreplace", "heappushpop"},
    "itertools": {
        "product", "combinations", "permutations", "chain", "accumulate", "pairwise", "islice", "zip_longest"},
    "collections": {"defaultdict"},
}

STATEMENTS = (
    ast.FunctionDef, ast.ClassDef, ast.Assign, ast.AugAssign, ast.If, ast.While, ast.For, ast.Return, ast.Break,
    ast.Continue, ast.Pass, ast.Raise, ast.Assert, ast.Delete, ast.Try, ast.Expr, ast.ImportFrom)

METHODS = set(
    "append clear copy count endswith extend find get index insert isalnum isalpha isdigit islower isspace isupper items "
    "join keys ljust lower lstrip partition pop remove replace reverse rfind rjust rpartition rsplit rstrip setdefault "
    "split splitlines startswith strip update upper values zfill bit_length".split())

BARRED = set(
    "register mro elements open input law version_info with_traceback add_note attrgetter breakpoint builtins compile "
    "copyright credits delattr dir eval exec exit gc getattr globals hasattr help id importlib license locals "
    "methodcaller os quit setattr super type vars sys".split())

WORDS = set(
    "type typing typing_extensions enum Enum IntEnum StrEnum Flag IntFlag Generic Protocol ABC ABCMeta namedtuple "
    "NamedTuple TypedDict TYPE_CHECKING abstractmethod dataclass overload contextmanager".split())


def files():
    """Pairs (name, text) of all files of the package."""
    out = []
    for name in sorted(os.listdir(FOLDER)):
        if name != "__pycache__":
            with open(os.path.join(FOLDER, name), encoding="utf-8", newline="") as rows:
                out.append((name, rows.read()))
    return out


def trees():
    return [(name, ast.parse(text)) for name, text in files()]


def nodes(kind):
    return [(name, node) for name, tree in trees() for node in ast.walk(tree) if isinstance(node, kind)]


def is_iterated_at_once(name, tree):
    """Whether each call of this name stands where it is iterated on the spot."""
    good = set()
    for node in ast.walk(tree):
        if isinstance(node, (ast.For, ast.comprehension)):
            good.add(node.iter)
        if isinstance(node, ast.Call) and isinstance(node.func, ast.Name) and node.args:
            if node.func.id in ("list", "tuple", "dict", "sorted", "sum", "any", "all", "enumerate", "zip", "min", "max"):
                good.add(node.args[0])
            if node.func.id in ("enumerate", "zip"):
                good.update(node.args)
    return all(node in good for node in ast.walk(tree)
               if isinstance(node, ast.Call) and isinstance(node.func, ast.Name) and node.func.id == name)


def bound_names(tree):
    """The names that a tree binds, except the methods of classes and attributes."""
    out = []
    for node in ast.walk(tree):
        if isinstance(node, (ast.FunctionDef, ast.ClassDef)):
            out.append(node.name)
        elif isinstance(node, ast.arg):
            out.append(node.arg)
        elif isinstance(node, ast.Name) and isinstance(node.ctx, ast.Store):
            out.append(node.id)
        elif isinstance(node, ast.alias):
            out.append(node.name)
    return out


class LanguageTest(unittest.TestCase):

    def test_files(self):
        for name, text in files():
            self.assertRegex(name, r"^(__init__|[a-z][a-z0-9_]*)\.py$")
            self.assertTrue(all(c == "\n" or " " <= c <= "~" for c in text), name)
            self.assertLessEqual(len(text.split("\n")), 399, name)
            self.assertLessEqual(max(len(row) for row in text.split("\n")), 120, name)
        self.assertLessEqual(len(files()), 100)

    def test_size_of_functions(self):
        for name, node in nodes(ast.FunctionDef):
            self.assertLessEqual(node.end_lineno - node.lineno + 1, 40, (name, node.name))
            self.assertFalse(node.decorator_list, (name, node.name))

    def test_module_level(self):
        for name, tree in trees():
            bound = []
            for place, row in enumerate(tree.body):
                if isinstance(row, ast.Expr):
                    self.assertEqual(place, 0, name)
                    self.assertIsInstance(row.value.value, str)
                elif isinstance(row, ast.Assign):
                    self.assertEqual(len(row.targets), 1)
                    ast.literal_eval(row.value)
                    bound.append(row.targets[0].id)
                elif isinstance(row, ast.ImportFrom):
                    bound.extend(own.name for own in row.names)
                else:
                    self.assertIsInstance(row, (ast.FunctionDef, ast.ClassDef), name)
                    bound.append(row.name)
            self.assertEqual(sorted(bound), sorted(set(bound)), name)

    def test_imports(self):
        defined = {}
        for name, tree in trees():
            defined[name[:-3]] = [row.name for row in tree.body if isinstance(row, (ast.FunctionDef, ast.ClassDef))]
            defined[name[:-3]] += [row.targets[0].id for row in tree.body if isinstance(row, ast.Assign)]
        for name, node in nodes((ast.Import, ast.ImportFrom)):
            self.assertIsInstance(node, ast.ImportFrom, name)
            self.assertEqual(node.level, 0)
            for own in node.names:
                self.assertIsNone(own.asname)
                if node.module in LIBRARY:
                    self.assertIn(own.name, LIBRARY[node.module])
                else:
                    self.assertTrue(node.module.startswith("everysource."), (name, node.module))
                    self.assertIn(own.name, defined[node.module[len("everysource."):]], name)

    def test_no_circles(self):
        needs = {}
        for name, node in nodes(ast.ImportFrom):
            needs.setdefault(name[:-3], set()).add(node.module.split(".")[-1])
        done = set()
        while True:
            ready = [name for name in needs if name not in done and not (needs[name] - done) & set(needs)]
            if not ready:
                break
            done.update(ready)
        self.assertEqual(done, set(needs))

    def test_imports_are_used(self):
        for name, tree in trees():
            read = {node.id for node in ast.walk(tree) if isinstance(node, ast.Name) and isinstance(node.ctx, ast.Load)}
            for node in ast.walk(tree):
                if isinstance(node, ast.ImportFrom):
                    self.assertEqual([own.name for own in node.names if own.name not in read], [], name)

    def test_names(self):
        for name, tree in trees():
            taken = {own.name for node in ast.walk(tree) if isinstance(node, ast.ImportFrom) for own in node.names}
            taken |= {node.name for node in ast.walk(tree) if isinstance(node, ast.ClassDef)}
            bound = bound_names(tree)
            for own in bound:
                self.assertFalse(own.startswith("__") and own != "__init__", (name, own))
                self.assertTrue(own == "__init__" or not hasattr(builtins, own), (name, own))
                self.assertNotIn(own, BARRED, name)
            for own in taken:
                self.assertEqual(bound.count(own), 1, (name, own))

    def test_statements(self):
        for name, node in nodes(ast.stmt):
            self.assertIsInstance(node, STATEMENTS, (name, node.lineno))
        for name, node in nodes((ast.Div, ast.MatMult, ast.Await, ast.Yield, ast.NamedExpr, ast.Global)):
            self.fail((name, node))
        for name, node in nodes(ast.Constant):
            self.assertNotIsInstance(node.value, (float, complex), name)
        for name, node in nodes(ast.BinOp):
            if isinstance(node.op, ast.Pow):
                self.assertIsInstance(node.right, ast.Constant, (name, node.lineno))
        for name, node in nodes((ast.Is, ast.IsNot)):
            pass
        for name, node in nodes(ast.Compare):
            for op, right in zip(node.ops, node.comparators):
                if isinstance(op, (ast.Is, ast.IsNot)):
                    self.assertIn(getattr(right, "value", 0), (None, True, False), (name, node.lineno))

    def test_classes(self):
        methods, stored, read = set(), set(), {}
        for name, node in nodes(ast.ClassDef):
            self.assertFalse(node.decorator_list or node.keywords, (name, node.name))
            own = [row.name for row in node.body if isinstance(row, ast.FunctionDef)]
            self.assertEqual(len(own), len(set(own)), (name, node.name))
            self.assertEqual([row for row in node.body[1:] if not isinstance(row, ast.FunctionDef)], [], (name, node.name))
            self.assertIsNotNone(ast.get_docstring(node), (name, node.name))
            methods.update(own)
            for row in node.body[1:]:
                self.assertEqual(row.args.args[0].arg, "self")
        for name, node in nodes(ast.Attribute):
            self.assertIsInstance(node.value, (ast.Name, ast.Attribute, ast.Call, ast.Subscript, ast.Constant), (name, node.lineno))
            if isinstance(node.ctx, ast.Store):
                self.assertIsInstance(node.value, ast.Name, (name, node.lineno))
                stored.add(node.attr)
            else:
                read[node.attr] = (name, node.lineno)
        self.assertEqual(methods & stored, set())
        for own in read:
            self.assertTrue(own in methods or own in stored or own in METHODS, (own, read[own]))
        self.assertEqual(stored & METHODS - {"count", "index", "title", "find", "get", "join", "split", "strip", "copy"}, set())
        self.assertEqual(stored & {"format", "args", "encode", "decode", "hex", "sort", "mro"}, set())

    def test_products(self):
        for name, node in nodes(ast.Call):
            if isinstance(node.func, ast.Name) and node.func.id in LIBRARY["itertools"]:
                self.assertEqual(node.keywords, [], (name, node.lineno))
                self.assertFalse(any(isinstance(own, ast.Starred) for own in node.args), (name, node.lineno))

    def test_handlers(self):
        for name, node in nodes(ast.ExceptHandler):
            self.assertIsInstance(node.type, ast.Name, (name, node.lineno))
            self.assertIn(node.type.id, ("BadLine", "NoPlace", "NothingDone", "CanNot", "TooMuch", "Unfit", "KeyError"), name)
            self.assertIsNone(node.name)
        for name, node in nodes(ast.Raise):
            self.assertIsInstance(node.exc, ast.Call, (name, node.lineno))
            self.assertIsNone(node.cause)

    def test_strings(self):
        for name, node in nodes(ast.Constant):
            if isinstance(node.value, str):
                self.assertNotIn("%", node.value, (name, node.lineno))
        for name, text in files():
            self.assertNotIn("\t", text)
            for row in text.split("\n"):
                self.assertEqual(WORDS & set(re.findall(r"\w+", row.split("#")[0])), set(), (name, row))

    def test_calls(self):
        own = {node.name for _, node in nodes((ast.FunctionDef, ast.ClassDef))}
        for name, node in nodes(ast.Name):
            if isinstance(node.ctx, ast.Load) and hasattr(builtins, node.id):
                self.assertIn(node.id, ALLOWED_BUILTINS, (name, node.lineno))
        for name, node in nodes(ast.Call):
            if isinstance(node.func, ast.Attribute):
                right = node.func.attr in METHODS or node.func.attr in own or node.func.attr == "__init__"
                right = right or node.func.attr in ("add", "discard")
                self.assertTrue(right, (name, node.func.attr))
            self.assertFalse(any(key.arg is None for key in node.keywords), (name, node.lineno))

    def test_iterated_at_once(self):
        for name, tree in trees():
            for own in ("zip", "enumerate", "reversed", "combinations", "permutations", "product"):
                self.assertTrue(is_iterated_at_once(own, tree), (name, own))

    def test_sets(self):
        for name, tree in trees():
            good = set()
            for node in ast.walk(tree):
                if isinstance(node, ast.Call) and isinstance(node.func, ast.Name) and node.func.id in ("sorted", "len"):
                    good.add(node.args[0])
                if isinstance(node, ast.Compare):
                    good.update(node.comparators)
            for node in ast.walk(tree):
                made = isinstance(node, ast.Call) and isinstance(node.func, ast.Name) and node.func.id == "set"
                if made or isinstance(node, (ast.Set, ast.SetComp)):
                    self.assertIn(node, good, (name, node.lineno))

    def test_generator_expressions(self):
        for name, tree in trees():
            good = set()
            for node in ast.walk(tree):
                if isinstance(node, ast.Call) and isinstance(node.func, ast.Name) and node.args:
                    if node.func.id in ("list", "tuple", "dict", "sorted", "sum", "min", "max", "any", "all"):
                        good.add(node.args[0])
            for node in ast.walk(tree):
                if isinstance(node, ast.GeneratorExp):
                    self.assertIn(node, good, (name, node.lineno))


if __name__ == "__main__":
    unittest.main()

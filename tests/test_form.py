"""The form of the package's files: those rules of the language that can be seen file by file."""

import ast
import builtins
import pathlib
import re
import unittest

PACKAGE = pathlib.Path(__file__).resolve().parent.parent / "movecells"

LIBRARY = {
    "heapq": {"heappush", "heappop", "heapify", "heapreplace", "heappushpop"},
    "math": {"gcd", "lcm", "isqrt", "comb", "perm", "factorial"},
    "itertools": {
        "product", "combinations", "permutations", "chain", "accumulate", "pairwise", "islice", "zip_longest",
    },
    "collections": {"defaultdict", "deque"},
}

BUILTINS = set(
    "len range enumerate zip map min max sum abs sorted reversed int str bool bytes list tuple dict set isinstance"
    " ord repr any all divmod pow getattr hasattr setattr iter next super type property staticmethod classmethod"
    " Exception ValueError TypeError KeyError IndexError LookupError ZeroDivisionError ArithmeticError OverflowError"
    " RuntimeError NotImplementedError AttributeError StopIteration NotImplemented".split()
)

SPECIAL = set(
    "__init__ __eq__ __repr__ __str__ __len__ __enter__ __exit__ __call__ __iter__ __lt__ __le__ __gt__ __ge__ __ne__"
    " __add__ __sub__ __mul__ __floordiv__ __mod__ __pow__ __and__ __or__ __xor__ __lshift__ __rshift__ __radd__"
    " __rsub__ __rmul__ __rfloordiv__ __rmod__ __rand__ __ror__ __rxor__ __rlshift__ __rrshift__ __iadd__ __isub__"
    " __imul__ __ifloordiv__ __imod__ __ipow__ __iand__ __ior__ __ixor__ __ilshift__ __irshift__ __neg__ __pos__"
    " __invert__ __abs__ __bool__ __contains__ __getitem__ __setitem__".split()
)

BARRED = re.compile(
    r"\b(register|mro|elements|open|input|law|version_info|with_traceback|add_note|typing|typing_extensions|enum|Enum"
    r"|IntEnum|StrEnum|Flag|IntFlag|Generic|Protocol|ABC|ABCMeta|namedtuple|NamedTuple|TypedDict|TYPE_CHECKING"
    r"|abstractmethod|globals|locals|eval|exec|compile|vars|dir|id|frozenset|chr|print|hash)\b|_wall|_WallAttr"
)

AT_MODULE_LEVEL = (ast.Expr, ast.ImportFrom, ast.FunctionDef, ast.ClassDef, ast.Assign)
BARRED_NODES = (
    ast.Import, ast.Global, ast.AsyncFunctionDef, ast.AsyncFor, ast.AsyncWith, ast.Await, ast.Div, ast.MatMult,
)


def files():
    return sorted(path for path in PACKAGE.rglob("*") if "__pycache__" not in path.parts)


def trees():
    return [(path.name, ast.parse(path.read_text())) for path in files()]


def bound_names(tree):
    """All names that a file binds, but for attributes and methods."""
    methods = {part for node in ast.walk(tree) if isinstance(node, ast.ClassDef) for part in node.body}
    for node in ast.walk(tree):
        if isinstance(node, ast.arg):
            yield node.arg
        elif isinstance(node, ast.Name) and isinstance(node.ctx, ast.Store):
            yield node.id
        elif isinstance(node, (ast.FunctionDef, ast.ClassDef)) and node not in methods:
            yield node.name


class TestForm(unittest.TestCase):
    def test_the_folder_holds_plain_files_only(self):
        for path in files():
            self.assertRegex(path.name, r"^([a-z][a-z0-9_]*|__init__|__main__)\.py$")

    def test_characters_and_sizes(self):
        for path in files():
            text = path.read_text()
            self.assertRegex(text, r"\A[\n -~]*\n\Z", path.name)
            lines = text.splitlines()
            self.assertLessEqual(len(lines), 399, path.name)
            self.assertLessEqual(max(len(line) for line in lines), 120, path.name)
        for name, tree in trees():
            for node in ast.walk(tree):
                if isinstance(node, ast.FunctionDef):
                    self.assertLessEqual(node.end_lineno - node.lineno + 1, 40, (name, node.name))

    def test_imports(self):
        above = {}
        for name, tree in trees():
            above[name.removesuffix(".py")] = []
            for node in ast.walk(tree):
                if isinstance(node, ast.ImportFrom):
                    self.assertIn(node, tree.body, name)
                    self.assertEqual(node.level, 0, name)
                    told = {one.name for one in node.names}
                    self.assertEqual([one.asname for one in node.names], [None] * len(node.names), name)
                    if node.module in LIBRARY:
                        self.assertLessEqual(told, LIBRARY[node.module], name)
                        continue
                    package, _, module = node.module.partition(".")
                    self.assertEqual(package, "movecells", name)
                    above[name.removesuffix(".py")].append(module)
                    defined = ast.parse((PACKAGE / (module + ".py")).read_text())
                    self.assertLessEqual(told, set(bound_names(defined)), (name, module))
        while above:
            free = [name for name in above if not set(above[name]) & set(above)]
            self.assertTrue(free, f"files import from each other: {sorted(above)}")
            above = {name: modules for name, modules in above.items() if name not in free}

    def test_statements_and_signs(self):
        for name, tree in trees():
            for node in tree.body:
                self.assertIsInstance(node, AT_MODULE_LEVEL, name)
            for node in ast.walk(tree):
                self.assertNotIsInstance(node, BARRED_NODES, name)
                if isinstance(node, ast.Constant):
                    self.assertNotIsInstance(node.value, (float, complex), name)

    def test_names(self):
        for name, tree in trees():
            for bound in bound_names(tree):
                self.assertFalse(hasattr(builtins, bound), (name, bound))
            imported = [one.name for node in tree.body if isinstance(node, ast.ImportFrom) for one in node.names]
            top = imported + [node.name for node in tree.body if isinstance(node, (ast.FunctionDef, ast.ClassDef))]
            self.assertEqual(len(top), len(set(top)), name)
            inner = [node.arg for node in ast.walk(tree) if isinstance(node, ast.arg)]
            inner = inner + [n.id for n in ast.walk(tree) if isinstance(n, ast.Name) and isinstance(n.ctx, ast.Store)]
            self.assertFalse(set(inner) & set(top), name)
            for node in ast.walk(tree):
                if isinstance(node, ast.Name) and hasattr(builtins, node.id):
                    self.assertIn(node.id, BUILTINS, name)
                if isinstance(node, ast.Attribute) and node.attr.startswith("__"):
                    self.assertIn(node.attr, ("__init__", "__class__", "__name__"), name)

    def test_methods(self):
        for name, tree in trees():
            for node in ast.walk(tree):
                if isinstance(node, ast.FunctionDef):
                    if node.name.startswith("__"):
                        self.assertIn(node.name, SPECIAL, name)
                    for mark in node.decorator_list:
                        self.assertRegex(ast.unparse(mark), r"^(property|staticmethod|classmethod|[a-z]+\.setter)$", name)
                if isinstance(node, ast.ClassDef):
                    self.assertIn(node, tree.body, name)
                    self.assertEqual(node.decorator_list, [], name)

    def test_names_of_methods_attributes_and_generators(self):
        methods, properties, attributes, plain, generators = [], set(), set(), [], []
        for _, tree in trees():
            inner = {part: node for node in ast.walk(tree) if isinstance(node, ast.ClassDef) for part in node.body}
            for node in ast.walk(tree):
                if isinstance(node, ast.FunctionDef):
                    marks = [ast.unparse(mark) for mark in node.decorator_list]
                    if any(isinstance(part, (ast.Yield, ast.YieldFrom)) for part in ast.walk(node)):
                        generators.append(node.name)
                    if "property" in marks:
                        properties.add(node.name)
                    elif node in inner and not marks:
                        methods.append(node.name)
                    elif node not in inner:
                        plain.append(node.name)
                if isinstance(node, ast.Attribute) and isinstance(node.ctx, ast.Store):
                    attributes.add(node.attr)
        self.assertFalse(properties & set(methods))
        self.assertFalse(properties & attributes)
        self.assertFalse(attributes & set(methods))
        for kind in (str, int, list, dict, set, bytes, tuple):
            self.assertFalse([name for name in properties | attributes if hasattr(kind, name) and name not in ("count", "index")])
        for name in generators:
            self.assertEqual((plain + methods).count(name), 1, name)

    def test_classes_that_are_indexed_are_not_iterated_over(self):
        for name, tree in trees():
            for node in ast.walk(tree):
                if isinstance(node, ast.ClassDef):
                    there = [part.name for part in node.body if isinstance(part, ast.FunctionDef)]
                    if "__getitem__" in there:
                        self.assertIn("__iter__", there, (name, node.name))

    def test_methods_that_only_tell(self):
        """Those that compare, measure or show assign nothing, and end with a return."""
        for name, tree in trees():
            for node in ast.walk(tree):
                if isinstance(node, ast.FunctionDef) and node.name in ("__eq__", "__len__", "__repr__", "__str__"):
                    self.assertIsInstance(node.body[-1], ast.Return, name)
                    for part in ast.walk(node):
                        self.assertNotIsInstance(part, (ast.Assign, ast.AugAssign, ast.NamedExpr, ast.Delete), name)

    def test_calls_and_expressions(self):
        """Own classes compare and reckon: sums and the like take lists, and nothing is added in place."""
        for name, tree in trees():
            for node in ast.walk(tree):
                self.assertNotIsInstance(node, (ast.AugAssign, ast.GeneratorExp), name)
                if isinstance(node, ast.Compare):
                    for sign, other in zip(node.ops, node.comparators):
                        if isinstance(sign, (ast.Is, ast.IsNot)):
                            self.assertIn(ast.unparse(other), ("None", "True", "False"), name)
                if isinstance(node, ast.Call) and isinstance(node.func, ast.Attribute):
                    self.assertNotIn(node.func.attr, ("sort", "keys", "format"), name)
                if isinstance(node, ast.Constant) and isinstance(node.value, str):
                    self.assertNotIn(chr(37), node.value, name)

    def test_words_that_are_barred(self):
        for path in files():
            tree = ast.parse(path.read_text())
            for node in ast.walk(tree):
                if isinstance(node, (ast.Module, ast.ClassDef, ast.FunctionDef)) and ast.get_docstring(node):
                    node.body[0] = ast.Pass()
                # The word of open axes in texts is no name.
                if isinstance(node, ast.Constant) and node.value == "open":
                    node.value = ""
            self.assertIsNone(BARRED.search(ast.unparse(tree)), path.name)
            self.assertIsNone(re.search(r"\(type\)|Meta|metaclass=", path.read_text()), path.name)


if __name__ == "__main__":
    unittest.main()

"""The package keeps to its small subset of Python, as far as a look at the code can tell.

It is stricter than the rules in one place: it allows no generators.
"""

import ast
import builtins
import pathlib
import re
import unittest

PACKAGE = pathlib.Path(__file__).resolve().parent.parent / "slicerows"
NAME = "slicerows"

BUILTINS = set("""len range enumerate zip min max sum abs sorted reversed int str bool bytes list tuple dict set
    frozenset isinstance ord repr any all divmod iter next map super property staticmethod classmethod Exception
    ValueError TypeError KeyError IndexError LookupError ZeroDivisionError ArithmeticError OverflowError RuntimeError
    NotImplementedError AttributeError StopIteration NotImplemented""".split())
METHODS = set("""append clear copy count endswith extend find get index insert isalnum isalpha isdigit islower isspace
    isupper items join keys ljust lower lstrip partition pop remove replace reverse rfind rjust rpartition rsplit
    rstrip setdefault split splitlines startswith strip update upper values zfill bit_length title capitalize swapcase
    casefold center expandtabs removeprefix removesuffix rindex isascii isdecimal isnumeric istitle isidentifier
    isprintable add discard""".split())
LIBRARY = {"heapq": "heappush heappop heapify heapreplace heappushpop".split(),
           "math": "gcd lcm isqrt comb perm factorial".split()}
SPECIAL = set("""init eq repr str len enter exit call iter lt le gt ge ne add sub mul floordiv mod pow and or xor lshift
    rshift radd rsub rmul iadd isub imul neg pos invert abs bool contains getitem setitem""".split())
STATEMENTS = (ast.FunctionDef, ast.ClassDef, ast.Assign, ast.AugAssign, ast.AnnAssign, ast.If, ast.While, ast.For,
              ast.Return, ast.Break, ast.Continue, ast.Pass, ast.Raise, ast.Assert, ast.Delete, ast.Nonlocal,
              ast.Match, ast.With, ast.Try, ast.Expr, ast.ImportFrom)
BARRED_NODES = (ast.Global, ast.AsyncFunctionDef, ast.Await, ast.AsyncFor, ast.AsyncWith, ast.Import, ast.Yield,
                ast.YieldFrom, ast.GeneratorExp, ast.Div, ast.MatMult)
BARRED_NAMES = set("""register mro elements open input law version_info with_traceback add_note attrgetter breakpoint
    builtins compile copyright credits delattr dir eval exec exit gc getattr globals hasattr help id importlib license
    locals methodcaller os quit setattr type vars sys""".split())
BARRED_WORDS = re.compile(r"\b(type|typing|enum|Enum|Flag|Generic|Protocol|ABC|namedtuple|NamedTuple)\b"
                          r"|dataclass|overload|contextmanager|_wall|_WallAttr")


def files():
    return sorted(PACKAGE.rglob("*.py"))


def trees():
    return [(path, ast.parse(path.read_text())) for path in files()]


def functions(tree):
    return [node for node in ast.walk(tree) if isinstance(node, ast.FunctionDef)]


def module_of(path):
    parts = path.relative_to(PACKAGE.parent).with_suffix("").parts
    return ".".join(parts[:-1] if parts[-1] == "__init__" else parts)


def defined(tree):
    """The names that a file binds itself at module level."""
    found = [node.name for node in tree.body if isinstance(node, (ast.FunctionDef, ast.ClassDef))]
    return found + [target.id for node in tree.body if isinstance(node, ast.Assign) for target in node.targets]


def imported(tree):
    return [alias.name for node in tree.body if isinstance(node, ast.ImportFrom) for alias in node.names]


def bound(function):
    """The parameters and local names of a function."""
    found = [argument.arg for node in ast.walk(function) if isinstance(node, ast.arguments)
             for argument in node.posonlyargs + node.args + node.kwonlyargs + [node.vararg, node.kwarg] if argument]
    return found + [node.id for node in ast.walk(function) if isinstance(node, ast.Name)
                    and not isinstance(node.ctx, ast.Load)]


class Language(unittest.TestCase):
    def test_files(self):
        found = [path for path in PACKAGE.rglob("*") if "__pycache__" not in path.parts]
        for path in found:
            self.assertTrue(path.is_dir() or path.suffix == ".py", path)
            self.assertRegex(path.stem, r"^[a-z][a-z0-9_]*$|^__init__$|^__main__$")
            if path.is_dir():
                self.assertTrue((path / "__init__.py").exists(), path)
                self.assertFalse(path.with_suffix(".py").exists(), path)
        self.assertLessEqual(len(files()), 100)

    def test_sizes_and_characters(self):
        for path in files():
            text = path.read_text()
            lines = text.split("\n")
            self.assertLessEqual(len(lines), 400, path)
            self.assertLessEqual(max([len(line) for line in lines]), 120, path)
            self.assertRegex(text, r"\A[ -~\n]*\Z", path)
        for path, tree in trees():
            for node in functions(tree):
                self.assertLessEqual(node.end_lineno - node.lineno + 1, 40, f"{path} {node.name}")

    def test_module_level(self):
        for path, tree in trees():
            for at, node in enumerate(tree.body):
                plain = isinstance(node, (ast.ImportFrom, ast.FunctionDef, ast.ClassDef, ast.Assign))
                self.assertTrue(plain or at == 0 and ast.get_docstring(tree), f"{path} {node.lineno}")
            names = defined(tree) + imported(tree)
            self.assertEqual(len(names), len(set(names)), path)
            self.assertFalse(set(names) & set(dir(builtins)), path)

    def test_imports(self):
        found = {module_of(path): defined(tree) for path, tree in trees()}
        order = {}
        for path, tree in trees():
            order[module_of(path)] = []
            for node in tree.body:
                if isinstance(node, ast.ImportFrom):
                    names = LIBRARY.get(node.module, found.get(node.module, []))
                    self.assertEqual(node.level, 0)
                    for alias in node.names:
                        self.assertIn(alias.name, names, f"{path}: {node.module}")
                        self.assertIsNone(alias.asname)
                    order[module_of(path)].append(node.module)
        self.assertTrue(all([self.comes_last(module, order, ()) for module in order]))

    def comes_last(self, module, order, ahead):
        """Whether no file is imported by what it imports."""
        self.assertNotIn(module, ahead)
        return all([self.comes_last(other, order, ahead + (module,)) for other in order.get(module, [])])

    def test_statements(self):
        for path, tree in trees():
            for node in ast.walk(tree):
                self.assertNotIsInstance(node, BARRED_NODES, f"{path} {getattr(node, 'lineno', '')}")
                if isinstance(node, ast.stmt):
                    self.assertIsInstance(node, STATEMENTS, f"{path} {node.lineno}")

    def test_builtins_and_names(self):
        for path, tree in trees():
            for node in ast.walk(tree):
                if isinstance(node, ast.Name):
                    self.assertTrue(node.id not in dir(builtins) or node.id in BUILTINS, f"{path} {node.id}")
                    self.assertFalse(node.id.startswith("__"), f"{path} {node.id}")
                    self.assertNotIn(node.id, BARRED_NAMES, path)
            for node in functions(tree):
                taken = set(bound(node)) & (set(dir(builtins)) | set(imported(tree)) | BARRED_NAMES)
                self.assertFalse(taken, f"{path} {node.name}")
                classes = {part.name for part in tree.body if isinstance(part, ast.ClassDef)}
                self.assertFalse(set(bound(node)) & classes, f"{path} {node.name}")
            for word in self.words_outside_comments(path, tree):
                self.assertIsNone(BARRED_WORDS.search(word), f"{path} {word}")

    def words_outside_comments(self, path, tree):
        """The names of a file, and its strings but for docstrings."""
        docs = [node.body[0].value for node in ast.walk(tree)
                if isinstance(node, (ast.Module, ast.FunctionDef, ast.ClassDef)) and ast.get_docstring(node)]
        for node in ast.walk(tree):
            if isinstance(node, ast.Constant) and isinstance(node.value, str) and node not in docs:
                self.assertNotIn("%", node.value, path)
                yield node.value
            elif isinstance(node, (ast.Name, ast.Attribute)):
                yield node.id if isinstance(node, ast.Name) else node.attr

    def test_methods(self):
        own = set(METHODS)
        for _, tree in trees():
            own.update([node.name for part in tree.body if isinstance(part, ast.ClassDef) for node in functions(part)])
        for path, tree in trees():
            for node in ast.walk(tree):
                if isinstance(node, ast.Call) and isinstance(node.func, ast.Attribute):
                    self.assertIn(node.func.attr, own, f"{path} {node.lineno}")
            for node in functions(tree):
                if node.name.startswith("__"):
                    self.assertIn(node.name.strip("_"), SPECIAL, f"{path} {node.name}")
                for mark in node.decorator_list:
                    setter = isinstance(mark, ast.Attribute) and mark.attr == "setter"
                    self.assertTrue(setter or mark.id in ("property", "staticmethod", "classmethod"), path)

    def test_expressions(self):
        for path, tree in trees():
            for node in ast.walk(tree):
                where = f"{path} {getattr(node, 'lineno', '')}"
                if isinstance(node, ast.Constant):
                    self.assertNotIsInstance(node.value, (float, complex), where)
                if isinstance(node, ast.BinOp) and isinstance(node.op, ast.Pow):
                    self.assertIsInstance(node.right, ast.Constant, where)
                    self.assertLessEqual(node.right.value, 64, where)
                if isinstance(node, ast.Compare):
                    for sign, side in zip(node.ops, node.comparators):
                        if isinstance(sign, (ast.Is, ast.IsNot)):
                            self.assertIn(getattr(side, "value", 0), (None, True, False), where)
                if isinstance(node, ast.Starred):
                    self.assertIsInstance(node.value, (ast.Name, ast.Attribute, ast.List, ast.Tuple), where)
                if isinstance(node, ast.Call) and isinstance(node.func, ast.Name):
                    self.check_call(node, where)
                if isinstance(node, ast.Raise) and node.exc is not None:
                    self.assertIsInstance(node.exc, ast.Call, where)

    def check_call(self, node, where):
        """Whether views and the like are iterated on the spot, and `key=` and `reversed` are as told."""
        lazy = ("zip", "enumerate", "reversed", "range", "map")
        inner = [part for part in node.args if isinstance(part, ast.Call) and isinstance(part.func, ast.Name)
                 and part.func.id in lazy]
        if inner and not (node.func.id == "reversed" and inner[0].func.id == "range"):
            self.assertIn(node.func.id, ("list", "tuple", "dict", "sorted", "sum", "any", "all", "enumerate", "zip",
                                         "bytes", "min", "max"), where)
        for keyword in node.keywords:
            if keyword.arg == "key":
                self.assertIsInstance(keyword.value, (ast.Lambda, ast.Name), where)

    def test_properties_and_attributes(self):
        told = {"property": set(), "assigned": set(), "method": set()}
        for _, tree in trees():
            for part in [node for node in tree.body if isinstance(node, ast.ClassDef)]:
                for node in functions(part):
                    marks = [mark.id for mark in node.decorator_list if isinstance(mark, ast.Name)]
                    told["property" if "property" in marks else "method"].add(node.name)
                    told["assigned"].update([target.attr for target in ast.walk(node)
                                             if isinstance(target, ast.Attribute) and isinstance(target.ctx, ast.Store)])
        self.assertFalse(told["property"] & told["assigned"])
        self.assertFalse(told["property"] & told["method"])
        self.assertFalse({"keys", "items", "values"} & (told["property"] | told["assigned"] | told["method"]))


if __name__ == "__main__":
    unittest.main()

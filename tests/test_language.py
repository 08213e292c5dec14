"""The rules of the language subset that can be seen in the text of the package."""

import ast
import builtins
import pathlib
import re
import unittest

FOLDER = pathlib.Path(__file__).resolve().parent.parent / "cordrules"
FILES = sorted(FOLDER.rglob("*.py"))
LIBRARY = {
    "heapq": ("heappush", "heappop", "heapify", "heapreplace", "heappushpop"),
    "math": ("gcd", "lcm", "isqrt", "comb", "perm", "factorial"),
    "itertools": ("product", "combinations", "permutations")}
BUILTINS = """len range enumerate zip min max sum abs sorted reversed int str bool list tuple dict set isinstance ord
    repr any all divmod pow ValueError TypeError KeyError IndexError ZeroDivisionError""".split()
METHODS = """append clear copy count endswith extend find get index insert isalnum isalpha isdigit islower isspace
    isupper items join keys ljust lower lstrip partition pop remove replace reverse rfind rjust rpartition rsplit
    rstrip setdefault split splitlines startswith strip update upper values zfill bit_length add discard
    swapcase isascii""".split()
NOWHERE = """register mro elements open input law version_info with_traceback add_note type typing
    typing_extensions enum Enum IntEnum StrEnum Flag IntFlag Generic Protocol ABC ABCMeta namedtuple NamedTuple
    TypedDict TYPE_CHECKING abstractmethod""".split()
NO_NAMES = """attrgetter breakpoint builtins compile copyright credits delattr dir eval exec exit gc globals help id
    importlib license locals methodcaller os quit super vars sys map iter next""".split()
STATEMENTS = (
    ast.Assign, ast.AugAssign, ast.If, ast.While, ast.For, ast.Return, ast.Break, ast.Continue, ast.Pass, ast.Raise,
    ast.Assert, ast.Delete, ast.Try, ast.Expr, ast.FunctionDef, ast.ClassDef, ast.ImportFrom, ast.With)
DUNDERS = ("__init__", "__eq__", "__len__", "__enter__", "__exit__")


def trees():
    for path in FILES:
        text = path.read_text(encoding="utf-8")
        yield path, text, ast.parse(text)


def names_bound(tree):
    """Names of functions, classes, parameters and variables."""
    for node in ast.walk(tree):
        if isinstance(node, (ast.FunctionDef, ast.ClassDef)):
            yield node.name
        elif isinstance(node, ast.arg):
            yield node.arg
        elif isinstance(node, ast.Name) and isinstance(node.ctx, ast.Store):
            yield node.id


def code_words(text, tree):
    """The text without comments and docstrings."""
    for node in ast.walk(tree):
        if isinstance(node, (ast.Module, ast.ClassDef, ast.FunctionDef)) and ast.get_docstring(node, clean=False):
            text = text.replace(ast.get_docstring(node, clean=False), "")
    return re.sub(r"#.*", "", text)


class TestLanguage(unittest.TestCase):
    def test_sizes_and_characters(self):
        for path, text, tree in trees():
            self.assertTrue(re.fullmatch(r"[a-z_]+\.py", path.name))
            self.assertLess(len(text.splitlines()), 400, path)
            for number, line in enumerate(text.split("\n"), 1):
                self.assertLessEqual(len(line), 120, (path, number))
                self.assertTrue(all(" " <= sign <= "~" for sign in line), (path, number))
            for node in ast.walk(tree):
                if isinstance(node, ast.FunctionDef):
                    self.assertLessEqual(node.end_lineno - node.lineno + 1, 40, (path, node.name))
        for path in FOLDER.rglob("*"):
            self.assertTrue(path.suffix == ".py" or "__pycache__" in path.parts, path)
        self.assertLessEqual(len(FILES), 100)

    def test_imports(self):
        defined, imported = {}, {}
        for path, _, tree in trees():
            module = "cordrules." + path.stem
            defined[module] = {node.name for node in tree.body if isinstance(node, (ast.FunctionDef, ast.ClassDef))}
            defined[module] |= {
                target.id for node in tree.body if isinstance(node, ast.Assign) for target in node.targets}
            imported[module] = [node for node in ast.walk(tree) if isinstance(node, (ast.Import, ast.ImportFrom))]
        for module, nodes in imported.items():
            for node in nodes:
                self.assertIsInstance(node, ast.ImportFrom, module)
                self.assertEqual(node.level, 0)
                known = LIBRARY.get(node.module) or defined[node.module]
                for alias in node.names:
                    self.assertIsNone(alias.asname)
                    self.assertIn(alias.name, known, module)
        behind = {}
        for module, nodes in imported.items():
            behind[module] = {node.module for node in nodes if node.module in defined}
        while behind:
            free = [module for module, others in behind.items() if not others & set(behind)]
            self.assertTrue(free, "files import from each other")
            behind = {module: others for module, others in behind.items() if module not in free}

    def test_names(self):
        for path, text, tree in trees():
            imports = {alias.name for node in tree.body if isinstance(node, ast.ImportFrom) for alias in node.names}
            classes = {node.name for node in tree.body if isinstance(node, ast.ClassDef)}
            functions = [node for node in ast.walk(tree) if isinstance(node, ast.FunctionDef)]
            for name in names_bound(tree):
                self.assertFalse(name in dir(builtins), (path, name))
                self.assertNotIn(name, NO_NAMES + NOWHERE, path)
                self.assertNotIn(name, imports, path)
                self.assertTrue(re.fullmatch(r"_|_?[A-Za-z][A-Za-z0-9_]*", name) or name in DUNDERS, name)
            for function in functions:
                for name in names_bound(ast.Module(function.body, [])):
                    self.assertNotIn(name, classes, path)
                for node in ast.walk(function):
                    if isinstance(node, ast.Name) and node.id == "_":
                        self.assertIsInstance(node.ctx, ast.Store, path)
            tops = [node.name for node in tree.body if isinstance(node, (ast.FunctionDef, ast.ClassDef))]
            self.assertEqual(len(tops), len(set(tops)))
            for word in re.findall(r"[A-Za-z_]\w*", code_words(text, tree)):
                self.assertNotIn(word, NOWHERE, path)
                self.assertFalse(any(part in word for part in ("dataclass", "overload", "contextmanager")), word)

    def test_statements_and_calls(self):
        own = {name for _, _, tree in trees() for name in names_bound(tree)}
        for path, _, tree in trees():
            for node in ast.walk(tree):
                where = (path.name, getattr(node, "lineno", 0))
                if isinstance(node, ast.stmt):
                    self.assertIsInstance(node, STATEMENTS, where)
                # A class has an __eq__: any, all and the like take lists, not generator expressions.
                self.assertNotIsInstance(
                    node, (ast.Div, ast.Yield, ast.YieldFrom, ast.NamedExpr, ast.Await, ast.GeneratorExp), where)
                if isinstance(node, ast.Constant):
                    self.assertNotIsInstance(node.value, (float, complex, bytes), where)
                    self.assertFalse(isinstance(node.value, str) and "%" in node.value, where)
                if isinstance(node, ast.Call) and isinstance(node.func, ast.Attribute):
                    self.assertIn(node.func.attr, METHODS + sorted(own), where)
                if isinstance(node, ast.Call) and isinstance(node.func, ast.Name) and node.func.id in dir(builtins):
                    self.assertIn(node.func.id, BUILTINS, where)
                    self.assertTrue({one.arg for one in node.keywords} <= {"key", "default", "start"}, where)
                if isinstance(node, ast.Call) and isinstance(node.func, ast.Name) and node.func.id == "product":
                    self.assertFalse(node.keywords, where)
                if isinstance(node, ast.FunctionDef):
                    self.assertIn([one.id for one in node.decorator_list], ([], ["property"]), where)

    def test_attributes_and_methods(self):
        taken = {name for value in ("", b"", 0, [], (), {}, set()) for name in dir(value)}
        free = "count index title find get join lower upper split strip copy add".split()
        for path, _, tree in trees():
            for node in tree.body:
                if isinstance(node, ast.ClassDef):
                    methods = {one.name for one in node.body if isinstance(one, ast.FunctionDef)}
                    stored = {one.attr for one in ast.walk(node)
                              if isinstance(one, ast.Attribute) and isinstance(one.ctx, ast.Store)}
                    self.assertFalse(methods & stored, (path.name, node.name))
                    self.assertFalse((stored - set(free)) & taken, (path.name, node.name))
                    self.assertFalse(methods & taken - set(DUNDERS + ("copy",)), (path.name, node.name))

    def test_no_name_is_both(self):
        stored, methods = set(), set()
        for _, _, tree in trees():
            for node in ast.walk(tree):
                if isinstance(node, ast.Attribute) and isinstance(node.ctx, ast.Store):
                    stored.add(node.attr)
                if isinstance(node, ast.ClassDef):
                    methods |= {one.name for one in node.body if isinstance(one, ast.FunctionDef)}
        self.assertFalse(stored & methods)

    def test_properties(self):
        stored, methods, properties = set(), set(), []
        for path, _, tree in trees():
            for node in ast.walk(tree):
                if isinstance(node, ast.Attribute) and isinstance(node.ctx, ast.Store):
                    stored.add(node.attr)
            for node in [one for part in tree.body if isinstance(part, ast.ClassDef) for one in part.body]:
                if isinstance(node, ast.FunctionDef) and node.decorator_list:
                    properties.append(node)
                elif isinstance(node, ast.FunctionDef):
                    methods.add(node.name)
        self.assertEqual(sorted(node.name for node in properties),
                         ["book", "goal", "guide", "marks", "plait", "plait", "row"])
        for node in properties:
            self.assertNotIn(node.name, stored | methods)
            rows = [one for one in node.body if not isinstance(one, ast.Expr)]
            self.assertEqual(len(rows), 1, node.name)
            self.assertIsInstance(rows[0].value, ast.Attribute)

    def test_imports_are_used(self):
        for path, _, tree in trees():
            names = {alias.name for node in tree.body if isinstance(node, ast.ImportFrom) for alias in node.names}
            used = {node.id for node in ast.walk(tree) if isinstance(node, ast.Name)}
            self.assertLessEqual(names, used, path.name)

    def test_sets(self):
        for path, _, tree in trees():
            sets = [node for node in ast.walk(tree) if isinstance(node, (ast.Set, ast.SetComp)) or is_call(node, "set")]
            askers = [node for node in ast.walk(tree) if is_call(node, "len") or is_call(node, "sorted")]
            kept = [arg for node in askers for arg in node.args]
            for node in sets:
                self.assertIn(node, kept, (path, node.lineno))

    def test_iterated_at_once(self):
        views = ("zip", "enumerate", "reversed", "map", "permutations", "combinations", "product")
        for path, _, tree in trees():
            good = []
            for node in ast.walk(tree):
                if isinstance(node, (ast.For, ast.comprehension)):
                    good.append(node.iter)
                if isinstance(node, ast.Call) and isinstance(node.func, ast.Name) and node.func.id in (
                        "list", "tuple", "dict", "sorted", "sum", "min", "max", "any", "all", "enumerate", "zip"):
                    good += node.args
            for node in ast.walk(tree):
                if any(is_call(node, name) for name in views) or (
                        isinstance(node, ast.Call) and isinstance(node.func, ast.Attribute)
                        and node.func.attr in ("items", "keys", "values")):
                    self.assertIn(node, good, (path, node.lineno))


def is_call(node, name):
    return isinstance(node, ast.Call) and isinstance(node.func, ast.Name) and node.func.id == name


if __name__ == "__main__":
    unittest.main()

"""The rules of LANGUAGE.md that can be seen from single words and lines of the package."""

import ast
import pathlib
import re
import unittest

PACKAGE = pathlib.Path(__file__).resolve().parent.parent / "hymnplates"

BUILTINS = """len range enumerate zip min max sum abs sorted reversed int str bool bytes list tuple dict set frozenset
isinstance ord repr any all divmod iter next map super property staticmethod classmethod Exception ValueError TypeError
KeyError IndexError LookupError ZeroDivisionError ArithmeticError OverflowError RuntimeError NotImplementedError
AttributeError StopIteration NotImplemented""".split()
METHODS = """append clear copy count endswith extend find get index insert isalnum isalpha isdigit islower isspace
isupper items join keys ljust lower lstrip partition pop remove replace reverse rfind rjust rpartition rsplit rstrip
setdefault split splitlines startswith strip update upper values zfill bit_length title capitalize swapcase casefold
center expandtabs removeprefix removesuffix rindex isascii isdecimal isnumeric istitle isidentifier isprintable
translate maketrans add discard encode decode hex""".split()
LIBRARY = {
    "heapq": ["heappush", "heappop", "heapify", "heapreplace", "heappushpop"],
    "math": ["gcd", "lcm", "isqrt", "comb", "perm", "factorial"],
    "itertools": ["product", "combinations", "permutations"],
}
STATEMENTS = (ast.Global, ast.AsyncFunctionDef, ast.AsyncFor, ast.AsyncWith, ast.Await, ast.Import, ast.Div, ast.MatMult)
WORDS = """type typing typing_extensions enum Enum IntEnum StrEnum Flag IntFlag Generic Protocol ABC ABCMeta namedtuple
NamedTuple TypedDict TYPE_CHECKING abstractmethod register mro elements open input law version_info with_traceback
add_note""".split()


def files():
    return sorted(path for path in PACKAGE.rglob("*") if path.is_file() and "__pycache__" not in path.parts)


def nodes(path):
    return list(ast.walk(ast.parse(path.read_text())))


class LanguageTest(unittest.TestCase):

    def each(self, kind):
        """All nodes of a kind, each with the place to be told if it is wrong."""
        for path in files():
            for node in nodes(path):
                if isinstance(node, kind):
                    yield f"{path.name}, line {getattr(node, 'lineno', '-')}", node

    def test_files(self):
        self.assertTrue(files())
        for path in files():
            with self.subTest(path.name):
                self.assertRegex(path.name, r"^[a-z0-9_]+\.py$")
                lines = path.read_text().split("\n")
                self.assertLessEqual(len(lines), 399)
                self.assertLessEqual(max(map(len, lines)), 120)
                self.assertRegex("".join(lines), r"^[ -~]*$")

    def test_functions_are_short(self):
        for place, node in self.each(ast.FunctionDef):
            self.assertLessEqual(node.end_lineno - node.lineno + 1, 40, place)

    def test_decorators(self):
        for place, node in self.each((ast.FunctionDef, ast.ClassDef)):
            for decorator in node.decorator_list:
                self.assertIn(ast.unparse(decorator), ("property", "staticmethod", "classmethod"), place)

    def test_imports(self):
        for place, node in self.each(ast.ImportFrom):
            self.assertEqual(node.level, 0, place)
            for alias in node.names:
                self.assertIsNone(alias.asname, place)
                if not node.module.startswith("hymnplates."):
                    self.assertIn(alias.name, LIBRARY[node.module], place)

    def test_no_statement_or_sign_that_is_barred(self):
        for place, node in self.each(STATEMENTS):
            self.fail(place)
        for place, node in self.each(ast.Constant):
            self.assertNotIsInstance(node.value, (float, complex), place)
            if isinstance(node.value, str):
                self.assertNotIn(chr(37), node.value, place)

    def test_builtins(self):
        builtin = dir(__import__("builtins"))
        for place, node in self.each(ast.Name):
            if node.id in builtin:
                self.assertIn(node.id, BUILTINS, place)
                self.assertIsInstance(node.ctx, ast.Load, place)
        for place, node in self.each((ast.arg, ast.FunctionDef)):
            name = node.arg if isinstance(node, ast.arg) else node.name
            self.assertNotIn(name, builtin, place)

    def test_methods_of_builtin_values(self):
        values = ["", b"", 0, [], (), {}, set(), frozenset()]
        known = {name for value in values for name in dir(value)}
        for place, node in self.each(ast.Attribute):
            if node.attr in known and not node.attr.startswith("__"):
                self.assertIn(node.attr, METHODS, place)

    def test_names_of_methods_are_no_names_of_attributes(self):
        methods, held = set(), set()
        for _, node in self.each(ast.ClassDef):
            for part in node.body:
                if isinstance(part, ast.FunctionDef):
                    of_property = "property" in [ast.unparse(decorator) for decorator in part.decorator_list]
                    (held if of_property else methods).add(part.name)
                if isinstance(part, ast.Assign):
                    held.update(target.id for target in part.targets)
        for _, node in self.each(ast.Attribute):
            if isinstance(node.ctx, ast.Store):
                held.add(node.attr)
        self.assertEqual(methods & held, set())
        self.assertLessEqual({"index", "counts", "case", "MAX_COUNT", "_timeline"}, held)

    def test_names_of_imports_and_classes_mean_nothing_else(self):
        for path in files():
            tree = ast.parse(path.read_text())
            bound = [alias.name for node in tree.body if isinstance(node, ast.ImportFrom) for alias in node.names]
            used = {node.id for node in ast.walk(tree) if isinstance(node, ast.Name) and isinstance(node.ctx, ast.Load)}
            self.assertLessEqual(set(bound), used, path.name)
            names = bound + [node.name for node in tree.body if isinstance(node, (ast.ClassDef, ast.FunctionDef))]
            self.assertEqual(len(set(names)), len(names), path.name)
            taken = {node.id for node in ast.walk(tree) if isinstance(node, ast.Name) and isinstance(node.ctx, ast.Store)}
            taken.update(node.arg for node in ast.walk(tree) if isinstance(node, ast.arg))
            self.assertEqual(taken & set(names), set(), path.name)

    def test_finally_only_assigns(self):
        for place, node in self.each(ast.Try):
            for part in node.finalbody:
                self.assertIsInstance(part, ast.Assign, place)
                for value in [part.value, *part.targets]:
                    self.assertIsInstance(value, (ast.Name, ast.Attribute), place)
            for handler in node.handlers:
                for name in ast.walk(handler.type):
                    if isinstance(name, ast.Name):
                        self.assertNotIn(name.id, BUILTINS, place)

    def test_views_and_zips_are_iterated_at_once(self):
        """They stand in the head of a loop or a comprehension, or in a call that iterates them."""
        at_once = "list tuple dict sorted sum any all enumerate zip min max".split()
        for path in files():
            tree = ast.parse(path.read_text())
            allowed = [node.iter for node in ast.walk(tree) if isinstance(node, (ast.For, ast.comprehension))]
            for node in ast.walk(tree):
                if isinstance(node, ast.Call) and isinstance(node.func, ast.Name) and node.func.id in at_once:
                    allowed.extend(node.args)
            for node in ast.walk(tree):
                if isinstance(node, ast.Call) and self.is_view(node):
                    self.assertIn(node, allowed, f"{path.name}, line {node.lineno}")

    def test_lists_and_dicts_at_module_level_are_only_read(self):
        """They are indexed, asked by a method, tested by `in`, iterated over or copied, and not passed on."""
        seen = 0
        tables = [name for path in files() for name in self.tables(ast.parse(path.read_text()))]
        for path in files():
            tree = ast.parse(path.read_text())
            held = self.tables(tree)
            allowed = []
            for node in ast.walk(tree):
                if isinstance(node, (ast.Subscript, ast.Attribute)):
                    allowed.append(node.value)
                elif isinstance(node, ast.Compare):
                    allowed.extend(node.comparators)
                elif isinstance(node, (ast.For, ast.comprehension)):
                    allowed.append(node.iter)
                elif isinstance(node, ast.Call) and ast.unparse(node.func) in ("list", "dict", "len"):
                    allowed.extend(node.args)
            for node in ast.walk(tree):
                if isinstance(node, ast.Name) and isinstance(node.ctx, ast.Load) and node.id in held:
                    self.assertIn(node, allowed, f"{path.name}, line {node.lineno}")
                    seen += 1
            for node in ast.walk(tree):
                if isinstance(node, ast.ImportFrom):
                    self.assertEqual([alias.name for alias in node.names if alias.name in tables], [], path.name)
        self.assertGreater(seen, 1)

    def tables(self, tree):
        """The names of the lists and dicts at module level."""
        return [node.targets[0].id for node in tree.body
                if isinstance(node, ast.Assign) and isinstance(node.value, (ast.List, ast.Dict))]

    def test_no_two_files_import_from_each_other(self):
        above = {}
        for path in files():
            modules = [node.module for node in ast.walk(ast.parse(path.read_text())) if isinstance(node, ast.ImportFrom)]
            above[path.stem] = [module.split(".")[1] for module in modules if module.startswith("hymnplates.")]
        placed = []
        while len(placed) < len(above):
            free = [name for name in above if name not in placed and all(one in placed for one in above[name])]
            self.assertTrue(free, sorted(set(above) - set(placed)))
            placed.extend(free)

    def is_view(self, node):
        if isinstance(node.func, ast.Name):
            return node.func.id in ("zip", "enumerate", "reversed", "range", "map")
        return isinstance(node.func, ast.Attribute) and node.func.attr in ("items", "keys", "values")

    def test_comprehensions_beside_operators(self):
        for place, node in self.each(ast.Call):
            if isinstance(node.func, ast.Name) and node.func.id in ("any", "all", "min", "max", "sum", "sorted"):
                for argument in node.args:
                    self.assertNotIsInstance(argument, ast.GeneratorExp, place)

    def test_words(self):
        for place, node in self.each((ast.Name, ast.Attribute, ast.arg, ast.FunctionDef, ast.ClassDef, ast.keyword)):
            for field in ("id", "attr", "arg", "name"):
                self.assertNotIn(getattr(node, field, None), WORDS, place)
        for path in files():
            self.assertIsNone(re.search(r"dataclass|overload|contextmanager|_wall|_WallAttr|metaclass=", path.read_text()))


if __name__ == "__main__":
    unittest.main()

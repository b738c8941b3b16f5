"""The form of the package: its folders, its sizes, and the small part of Python that it uses."""

import ast
import builtins
import pathlib
import unittest

PACKAGE = pathlib.Path(__file__).resolve().parent.parent / "grownquorums"
FILES = sorted(PACKAGE.rglob("*.py"))

LIBRARY = {"math": {"gcd", "lcm", "isqrt", "comb", "perm", "factorial"},
           "heapq": {"heappush", "heappop", "heapify", "heapreplace", "heappushpop"}}

BUILTINS = set(
    "len range enumerate zip min max sum abs sorted reversed int str bool bytes list tuple dict set frozenset "
    "isinstance ord repr any all divmod pow iter next type property staticmethod classmethod super "
    "Exception ValueError TypeError KeyError IndexError LookupError ZeroDivisionError ArithmeticError OverflowError "
    "RuntimeError NotImplementedError AttributeError StopIteration NotImplemented".split())

METHODS = set(
    "append clear copy count endswith extend find get index insert isalnum isalpha isdigit islower isspace isupper "
    "items join keys ljust lower lstrip partition pop remove replace reverse rfind rjust rpartition rsplit rstrip "
    "setdefault split splitlines startswith strip update upper values zfill bit_length add discard".split())

BARRED_NAMES = set(
    "register mro elements open input law version_info with_traceback add_note typing enum Enum Flag Generic "
    "Protocol ABC namedtuple abstractmethod dataclass".split())

BARRED_NODES = (
    ast.AsyncFunctionDef, ast.AsyncFor, ast.AsyncWith, ast.Await, ast.Import, ast.Global, ast.GeneratorExp, ast.Div,
)


def trees():
    return [(path, ast.parse(path.read_text("utf-8"))) for path in FILES]


def nodes(*kinds):
    """All nodes of these kinds, each with its place."""
    for path, tree in trees():
        for node in ast.walk(tree):
            if isinstance(node, kinds):
                yield f"{path.name}:{getattr(node, 'lineno', 0)}", node


def own_names():
    return {node.name for _, node in nodes(ast.FunctionDef, ast.ClassDef)}


class Folders(unittest.TestCase):
    def test_nothing_but_plain_python_files(self):
        for path in PACKAGE.rglob("*"):
            if path.name == "__pycache__" or path.parent.name == "__pycache__":
                continue
            if path.is_dir():
                self.assertTrue((path / "__init__.py").is_file(), path)
            else:
                self.assertRegex(path.name, r"\A[a-z0-9_]+\.py\Z")

    def test_sizes_and_signs(self):
        for path in FILES:
            text = path.read_text("utf-8")
            lines = text.split("\n")
            self.assertLess(len(lines), 400, path)
            self.assertLessEqual(max(len(line) for line in lines), 120, path)
            self.assertTrue(all(sign == "\n" or " " <= sign <= "~" for sign in text), path)

    def test_lengths_of_functions(self):
        for place, node in nodes(ast.FunctionDef):
            self.assertLessEqual(node.end_lineno - node.lineno + 1, 40, place)


class Language(unittest.TestCase):
    def test_module_level(self):
        for path, tree in trees():
            for at, node in enumerate(tree.body):
                is_docstring = at == 0 and isinstance(node, ast.Expr) and isinstance(node.value, ast.Constant)
                is_plain = isinstance(node, ast.Assign) and len(node.targets) == 1 and isinstance(
                    node.targets[0], ast.Name)
                is_other = isinstance(node, (ast.ImportFrom, ast.FunctionDef, ast.ClassDef))
                self.assertTrue(is_docstring or is_plain or is_other, f"{path}:{node.lineno}")

    def test_imports(self):
        for place, node in nodes(ast.ImportFrom):
            names = {alias.name for alias in node.names}
            self.assertEqual(node.level, 0, place)
            self.assertTrue(all(alias.asname is None and alias.name != "*" for alias in node.names), place)
            if not node.module.startswith("grownquorums."):
                self.assertLessEqual(names, LIBRARY.get(node.module, set()), place)

    def test_barred_statements_and_signs(self):
        for place, node in nodes(*BARRED_NODES):
            self.fail(f"{place}: {node}")

    def test_constants(self):
        for place, node in nodes(ast.Constant):
            self.assertNotIsInstance(node.value, (float, complex), place)
            if isinstance(node.value, str):
                self.assertNotIn("%", node.value, place)

    def test_exponents(self):
        for place, node in nodes(ast.BinOp):
            if isinstance(node.op, ast.Pow):
                self.assertIsInstance(node.right, ast.Constant, place)
                self.assertIn(node.right.value, range(65), place)

    def test_builtins(self):
        for place, node in nodes(ast.Name):
            if hasattr(builtins, node.id):
                self.assertIn(node.id, BUILTINS, place)
                self.assertIsInstance(node.ctx, ast.Load, place)
        for place, node in nodes(ast.arg):
            self.assertFalse(hasattr(builtins, node.arg), place)
        for place, node in nodes(ast.FunctionDef, ast.ClassDef):
            self.assertFalse(hasattr(builtins, node.name) and node.name != "__init__", place)

    def test_methods(self):
        known = METHODS | own_names() | {"__init__"}
        for place, node in nodes(ast.Call):
            if isinstance(node.func, ast.Attribute):
                self.assertIn(node.func.attr, known, place)

    def test_barred_names(self):
        for place, node in nodes(ast.Name, ast.Attribute, ast.arg, ast.FunctionDef, ast.ClassDef):
            names = [getattr(node, word, None) for word in ("id", "attr", "arg", "name")]
            self.assertFalse(BARRED_NAMES & set(names), place)

    def test_no_two_files_import_from_each_other(self):
        known = {}
        for path, tree in trees():
            name = ".".join(path.relative_to(PACKAGE.parent).with_suffix("").parts)
            known[name] = {node.module for node in ast.walk(tree) if isinstance(node, ast.ImportFrom)}
        while known:
            free = [name for name in known if not known[name] & set(known)]
            self.assertTrue(free, known)
            known = {name: known[name] for name in known if name not in free}


if __name__ == "__main__":
    unittest.main()

"""The form of the package: its folders, its sizes, and the small part of Python that it uses."""

import ast
import builtins
import functools
import itertools
import pathlib
import unittest

PACKAGE = pathlib.Path(__file__).resolve().parent.parent / "grownquorums"
FILES = sorted(PACKAGE.rglob("*.py"))

LIBRARY = {"math": {"gcd", "lcm", "isqrt", "comb", "perm", "factorial"},
           "heapq": {"heappush", "heappop", "heapify", "heapreplace", "heappushpop"}}

BUILTINS = set(
    "len range enumerate zip min max sum abs sorted reversed int str bool bytes list tuple dict set frozenset "
    "isinstance ord repr any all divmod pow iter next type property staticmethod classmethod super "
    "Exception ValueError TypeError KeyError IndexError LookupError ZeroDivisionError ArithmeticError OverflowError "
    "RuntimeError NotImplementedError AttributeError StopIteration NotImplemented".split())

METHODS = set(
    "append clear copy count endswith extend find get index insert isalnum isalpha isdigit islower isspace isupper "
    "items join keys ljust lower lstrip partition pop remove replace reverse rfind rjust rpartition rsplit rstrip "
    "setdefault split splitlines startswith strip update upper values zfill bit_length add discard".split())

BARRED_NAMES = set(
    "register mro elements open input law version_info with_traceback add_note typing enum Enum Flag Generic "
    "Protocol ABC namedtuple abstractmethod dataclass".split())

DOUBLE = set(
    "__init__ __eq__ __str__ __len__ __iter__ __contains__ __getitem__ __call__ __enter__ __exit__".split())

BARRED_NODES = (
    ast.AsyncFunctionDef, ast.AsyncFor, ast.AsyncWith, ast.Await, ast.Import, ast.Global, ast.GeneratorExp, ast.Div,
)


@functools.lru_cache(maxsize=None)
def trees():
    return [(path, ast.parse(path.read_text("utf-8"))) for path in FILES]


def nodes(*kinds):
    """All nodes of these kinds, each with its place."""
    for path, tree in trees():
        for node in ast.walk(tree):
            if isinstance(node, kinds):
                yield f"{path.name}:{getattr(node, 'lineno', 0)}", node


def local_names(function):
    """The parameters of a function and all names that it assigns."""
    names = [node.arg for node in ast.walk(function) if isinstance(node, ast.arg)]
    return names + [
        node.id for node in ast.walk(function) if isinstance(node, ast.Name) and not isinstance(node.ctx, ast.Load)]


def own_names():
    return {node.name for _, node in nodes(ast.FunctionDef, ast.ClassDef)}


class Folders(unittest.TestCase):
    def test_nothing_but_plain_python_files(self):
        for path in PACKAGE.rglob("*"):
            if path.name == "__pycache__" or path.parent.name == "__pycache__":
                continue
            if path.is_dir():
                self.assertTrue((path / "__init__.py").is_file(), path)
            else:
                self.assertRegex(path.name, r"\A[a-z0-9_]+\.py\Z")

    def test_sizes_and_signs(self):
        for path in FILES:
            text = path.read_text("utf-8")
            lines = text.split("\n")
            self.assertLess(len(lines), 400, path)
            self.assertLessEqual(max(len(line) for line in lines), 120, path)
            self.assertTrue(all(sign == "\n" or " " <= sign <= "~" for sign in text), path)

    def test_lengths_of_functions(self):
        for place, node in nodes(ast.FunctionDef):
            self.assertLessEqual(node.end_lineno - node.lineno + 1, 40, place)


class Language(unittest.TestCase):
    def test_module_level(self):
        for path, tree in trees():
            for at, node in enumerate(tree.body):
                is_docstring = at == 0 and isinstance(node, ast.Expr) and isinstance(node.value, ast.Constant)
                is_plain = isinstance(node, ast.Assign) and len(node.targets) == 1 and isinstance(
                    node.targets[0], ast.Name)
                is_other = isinstance(node, (ast.ImportFrom, ast.FunctionDef, ast.ClassDef))
                self.assertTrue(is_docstring or is_plain or is_other, f"{path}:{node.lineno}")

    def test_imports(self):
        for place, node in nodes(ast.ImportFrom):
            names = {alias.name for alias in node.names}
            self.assertEqual(node.level, 0, place)
            self.assertTrue(all(alias.asname is None and alias.name != "*" for alias in node.names), place)
            if not node.module.startswith("grownquorums."):
                self.assertLessEqual(names, LIBRARY.get(node.module, set()), place)

    def test_barred_statements_and_signs(self):
        for place, node in nodes(*BARRED_NODES):
            self.fail(f"{place}: {node}")

    def test_constants(self):
        for place, node in nodes(ast.Constant):
            self.assertNotIsInstance(node.value, (float, complex), place)
            if isinstance(node.value, str):
                self.assertNotIn("%", node.value, place)

    def test_exponents(self):
        for place, node in nodes(ast.BinOp):
            if isinstance(node.op, ast.Pow):
                self.assertIsInstance(node.right, ast.Constant, place)
                self.assertIn(node.right.value, range(65), place)

    def test_builtins(self):
        for place, node in nodes(ast.Name):
            if hasattr(builtins, node.id):
                self.assertIn(node.id, BUILTINS, place)
                self.assertIsInstance(node.ctx, ast.Load, place)
        for place, node in nodes(ast.arg):
            self.assertFalse(hasattr(builtins, node.arg), place)
        for place, node in nodes(ast.FunctionDef, ast.ClassDef):
            self.assertFalse(hasattr(builtins, node.name) and node.name not in DOUBLE, place)

    def test_methods(self):
        known = METHODS | own_names() | {"__init__"}
        for place, node in nodes(ast.Call):
            if isinstance(node.func, ast.Attribute):
                self.assertIn(node.func.attr, known, place)

    def test_double_underscores(self):
        for place, node in nodes(ast.FunctionDef, ast.ClassDef):
            if node.name.startswith("__"):
                self.assertIn(node.name, DOUBLE, place)
        for place, node in nodes(ast.Name, ast.Attribute):
            self.assertFalse(getattr(node, "id", getattr(node, "attr", "")).startswith("__"), place)

    def test_classes(self):
        """Properties, methods and attributes have names of their own."""
        kinds = {"property": set(), "classmethod": set(), "method": set(), "attribute": set()}
        for place, node in nodes(ast.ClassDef):
            methods = {one.name: one for one in node.body if isinstance(one, ast.FunctionDef)}
            if "__getitem__" in methods:
                self.assertIn("__iter__", methods, place)
            for name, one in methods.items():
                words = [decorator.id for decorator in one.decorator_list]
                self.assertIn(words, ([], ["property"], ["classmethod"]), place)
                if name not in DOUBLE:
                    kinds[words[0] if words else "method"].add(name)
                if name == "__iter__":
                    self.assertEqual(len(one.body), 1, place)
        for place, node in nodes(ast.Attribute):
            if isinstance(node.ctx, ast.Store):
                self.assertIsInstance(node.value, ast.Name, place)
                kinds["attribute"].add(node.attr)
        for one, other in itertools.combinations(kinds, 2):
            self.assertFalse(kinds[one] & kinds[other], (one, other))
        for name in kinds["property"] | kinds["classmethod"]:
            self.assertFalse(any(hasattr(kind, name) for kind in (str, int, list, dict, tuple, bytes, set)), name)

    def test_generators(self):
        """A generator's name is its own, and its call is iterated at once, beside names alone."""
        makers = [node.name for _, node in nodes(ast.FunctionDef)
                  if any(isinstance(one, (ast.Yield, ast.YieldFrom)) for one in ast.walk(node))]
        names = [node.name for _, node in nodes(ast.FunctionDef)]
        for name in makers:
            self.assertEqual(names.count(name), 1)
        heads = [node.iter for _, node in nodes(ast.For)]
        heads += [node.args[0] for _, node in nodes(ast.Call)
                  if getattr(node.func, "id", "") in ("list", "tuple") and node.args]
        for place, node in nodes(ast.Call):
            if getattr(node.func, "id", "") in makers:
                self.assertIn(node, heads, place)
                self.assertTrue(all(isinstance(arg, (ast.Name, ast.Constant)) for arg in node.args), place)

    def test_no_local_name_is_an_import_or_a_class(self):
        for path, tree in trees():
            taken = {alias.name for node in tree.body if isinstance(node, ast.ImportFrom) for alias in node.names}
            taken |= {node.name for node in tree.body if isinstance(node, ast.ClassDef)}
            for node in ast.walk(tree):
                if isinstance(node, ast.FunctionDef):
                    self.assertFalse(taken & set(local_names(node)), f"{path}:{node.lineno}")

    def test_nothing_is_used_that_is_not_imported(self):
        for path, tree in trees():
            bound = {alias.name for node in tree.body if isinstance(node, ast.ImportFrom) for alias in node.names}
            read = {node.id for node in ast.walk(tree) if isinstance(node, ast.Name)}
            bases = {node.id for one in tree.body if isinstance(one, ast.ClassDef) for node in one.bases}
            self.assertFalse(bound - read - bases, f"{path}: imported, but not used")

    def test_each_name_is_bound_once(self):
        for path, tree in trees():
            names = [node.name for node in tree.body if isinstance(node, (ast.FunctionDef, ast.ClassDef))]
            names += [node.targets[0].id for node in tree.body if isinstance(node, ast.Assign)]
            names += [alias.name for node in tree.body if isinstance(node, ast.ImportFrom) for alias in node.names]
            self.assertEqual(len(names), len(set(names)), path)

    def test_views_and_ranges_are_iterated_at_once(self):
        for place, node in nodes(ast.Assign, ast.Return):
            value = node.value
            if isinstance(value, ast.Call):
                word = getattr(value.func, "id", getattr(value.func, "attr", ""))
                self.assertNotIn(word, ("range", "zip", "enumerate", "reversed", "items", "keys", "values"), place)

    def test_barred_names(self):
        for place, node in nodes(ast.Name, ast.Attribute, ast.arg, ast.FunctionDef, ast.ClassDef):
            names = [getattr(node, word, None) for word in ("id", "attr", "arg", "name")]
            self.assertFalse(BARRED_NAMES & set(names), place)

    def test_no_two_files_import_from_each_other(self):
        known = {}
        for path, tree in trees():
            name = ".".join(path.relative_to(PACKAGE.parent).with_suffix("").parts)
            known[name] = {node.module for node in ast.walk(tree) if isinstance(node, ast.ImportFrom)}
        while known:
            free = [name for name in known if not known[name] & set(known)]
            self.assertTrue(free, known)
            known = {name: known[name] for name in known if name not in free}


if __name__ == "__main__":
    unittest.main()

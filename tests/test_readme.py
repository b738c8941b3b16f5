"""The calls in README.md return what it tells behind them."""

import ast
import pathlib
import re
import unittest

TEXT = (pathlib.Path(__file__).resolve().parent.parent / "README.md").read_text("utf-8")

# Modules with helpers alone, of which the document tells nothing.
HELPERS = ("lines", "powers", "ways", "tables", "tableaus", "marks")


class Readme(unittest.TestCase):
    def test_what_is_told_behind_the_calls(self):
        many = 0
        names = {}
        for block in re.findall(r"```python\n(.*?)```", TEXT, re.S):
            lines = block.split("\n")
            for node in ast.parse(block).body:
                told = lines[node.end_lineno - 1].partition("  # ")[2]
                if told == "" or isinstance(node, ast.Assign):
                    exec(compile(ast.Module([node], []), "README.md", "exec"), names)
                if told == "":
                    continue
                # Calls that change something are done once.
                value = node.targets[0] if isinstance(node, ast.Assign) else node.value
                found = eval(ast.unparse(value), names)
                self.assertTrue(told == repr(found) or told.startswith(repr(found) + ","), (told, found))
                many += 1
        self.assertGreater(many, 60)

    def test_each_module_is_named(self):
        package = pathlib.Path(__file__).resolve().parent.parent / "grownquorums"
        for path in package.rglob("*.py"):
            name = ".".join(path.relative_to(package.parent).with_suffix("").parts)
            if not name.endswith("__init__") and name.rpartition(".")[2] not in HELPERS:
                self.assertIn(f"| `{name}` |", TEXT)


if __name__ == "__main__":
    unittest.main()

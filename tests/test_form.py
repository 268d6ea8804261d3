"""What is easily counted of LANGUAGE.md, in each file of the package."""

import ast
import builtins
import pathlib
import unittest

PACKAGE = pathlib.Path(__file__).resolve().parent.parent / "atanywrite"
FILES = sorted(path for path in PACKAGE.iterdir() if path.name != "__pycache__")
LIBRARY = ("heapq", "math", "itertools", "collections")
CALLED = (
    "len range enumerate zip min max sum abs sorted reversed int str bool list tuple dict set frozenset isinstance "
    "ord repr any all divmod pow map iter next getattr hasattr setattr super TypeError"
).split()
NOT_USED = (
    ast.Import, ast.AsyncFunctionDef, ast.Div, ast.GeneratorExp, ast.Global, ast.Nonlocal, ast.Lambda, ast.Yield,
)


def tree_of(path):
    return ast.parse(path.read_text(encoding="utf-8"))


def nodes(path, *kinds):
    return [node for node in ast.walk(tree_of(path)) if isinstance(node, kinds)]


def names_in(path):
    found = [node.name for node in nodes(path, ast.FunctionDef, ast.ClassDef)]
    found += [node.arg for node in nodes(path, ast.arg)]
    return found + [node.id for node in nodes(path, ast.Name) if isinstance(node.ctx, ast.Store)]


def defined_in(path):
    body = tree_of(path).body
    found = [part.name for part in body if isinstance(part, (ast.FunctionDef, ast.ClassDef))]
    return found + [part.targets[0].id for part in body if isinstance(part, ast.Assign)]


def properties_in(path):
    return [node.name for node in nodes(path, ast.FunctionDef) if node.decorator_list]


class FormTest(unittest.TestCase):
    def test_files(self):
        self.assertIn("__init__.py", [path.name for path in FILES])
        for path in FILES:
            self.assertRegex(path.name, "^[a-z0-9_]+[.]py$")

    def test_lines_and_characters(self):
        for path in FILES:
            lines = path.read_text(encoding="utf-8").split("\n")
            self.assertLessEqual(len(lines), 399, path.name)
            for number, line in enumerate(lines, 1):
                self.assertLessEqual(len(line), 120, f"{path.name}:{number}")
                self.assertRegex(line, "^[ -~]*$", f"{path.name}:{number}")

    def test_functions_have_at_most_40_lines(self):
        for path in FILES:
            for node in nodes(path, ast.FunctionDef):
                self.assertLessEqual(node.end_lineno - node.lineno + 1, 40, f"{path.name}: {node.name}")

    def test_imports_name_the_file_that_defines_the_name(self):
        for path in FILES:
            for node in nodes(path, ast.ImportFrom):
                self.assertEqual(node.level, 0, path.name)
                self.assertEqual([part.asname for part in node.names], [None] * len(node.names), path.name)
                if node.module not in LIBRARY:
                    package, name = node.module.split(".")
                    self.assertEqual(package, "atanywrite", path.name)
                    for part in node.names:
                        self.assertIn(part.name, defined_in(PACKAGE / f"{name}.py"), path.name)

    def test_each_name_is_bound_once_in_a_file(self):
        for path in FILES:
            imported = [part.name for node in nodes(path, ast.ImportFrom) for part in node.names]
            bound = imported + defined_in(path)
            self.assertEqual(len(bound), len(set(bound)), path.name)
            for name in names_in(path):
                self.assertNotIn(name, imported, path.name)

    def test_plain_names(self):
        for path in FILES:
            for name in names_in(path):
                self.assertRegex(name, "^(_|_?[A-Za-z][A-Za-z0-9_]*|__[a-z]+__)$", path.name)
                # A doctest run in the same process leaves its last answer among the builtins as _.
                allowed = name == "_" or name.startswith("__") or not hasattr(builtins, name)
                self.assertTrue(allowed, f"{path.name}: {name}")

    def test_only_plain_builtins_are_called(self):
        for path in FILES:
            for node in nodes(path, ast.Call):
                if isinstance(node.func, ast.Name) and hasattr(builtins, node.func.id):
                    self.assertIn(node.func.id, CALLED, path.name)

    def test_only_own_errors_are_caught(self):
        own = defined_in(PACKAGE / "errors.py")
        for path in FILES:
            for node in nodes(path, ast.ExceptHandler):
                self.assertIsInstance(node.type, ast.Name, path.name)
                self.assertIn(node.type.id, own, path.name)

    def test_no_attribute_has_the_name_of_a_property(self):
        kept = {name for path in FILES for name in properties_in(path)}
        self.assertEqual(kept, {"row", "told", "here", "names", "deeds"})
        for path in FILES:
            methods = [node.name for node in nodes(path, ast.FunctionDef)]
            self.assertEqual([name for name in methods if name in kept], properties_in(path), path.name)
            stored = [node.attr for node in nodes(path, ast.Attribute) if isinstance(node.ctx, ast.Store)]
            self.assertEqual([name for name in stored if name in kept], [], path.name)

    def test_what_is_not_used(self):
        for path in FILES:
            self.assertEqual([node.__class__.__name__ for node in nodes(path, *NOT_USED)], [], path.name)
            for node in nodes(path, ast.Constant):
                self.assertNotIsInstance(node.value, float, path.name)
                if isinstance(node.value, str):
                    self.assertNotIn("%", node.value, path.name)


if __name__ == "__main__":
    unittest.main()

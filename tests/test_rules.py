"""A part of the rules of the language that can be seen without running the program."""

import ast
import builtins
import re
import unittest
from pathlib import Path

FOLDER = Path(__file__).resolve().parent.parent / "corrigenda"
FILES = sorted(path for path in FOLDER.rglob("*") if path.is_file() and "__pycache__" not in path.parts)
BARRED_NODES = (
    ast.AsyncFunctionDef, ast.Global, ast.Import, ast.GeneratorExp, ast.Set, ast.SetComp, ast.Lambda, ast.Yield,
    ast.JoinedStr, ast.Pow, ast.Div,
)
BUILTINS = {
    "len", "range", "enumerate", "zip", "min", "max", "sum", "abs", "sorted", "reversed", "int", "str", "bool",
    "list", "tuple", "dict", "isinstance", "any", "all", "ValueError",
}
METHODS = {"append", "extend", "get", "items", "copy", "pop", "insert", "reverse", "index", "count", "update", "values"}


def trees():
    return [(path, ast.parse(path.read_text("ascii"))) for path in FILES]


class Rules(unittest.TestCase):
    def test_files(self):
        for path in FILES:
            self.assertRegex(path.name, r"^[a-z_]+\.py$")
            text = path.read_text("ascii")
            self.assertIsNone(re.search(r"[^ -~\n]", text))
            lines = text.splitlines()
            self.assertLessEqual(len(lines), 399)
            self.assertLessEqual(max(len(line) for line in lines), 120)

    def test_functions_are_short(self):
        for path, tree in trees():
            for node in ast.walk(tree):
                if isinstance(node, ast.FunctionDef):
                    self.assertLessEqual(node.end_lineno - node.lineno + 1, 40, (path.name, node.name))
                    self.assertEqual(node.decorator_list, [])

    def test_what_is_not_used(self):
        for path, tree in trees():
            for node in ast.walk(tree):
                self.assertNotIsInstance(node, BARRED_NODES, (path.name, getattr(node, "lineno", 0)))
                if isinstance(node, ast.Constant):
                    self.assertNotIsInstance(node.value, (float, complex))
                if isinstance(node, ast.Attribute):
                    self.assertIn(node.attr, METHODS, (path.name, node.lineno))

    def test_imports(self):
        for path, tree in trees():
            for node in ast.walk(tree):
                if isinstance(node, ast.ImportFrom):
                    self.assertEqual(node.level, 0)
                    self.assertRegex(node.module, r"^corrigenda\.[a-z]+$")
                    self.defined(node)

    def defined(self, node):
        """Names are imported from the very file that defines them."""
        tree = ast.parse((FOLDER / (node.module.split(".")[1] + ".py")).read_text("ascii"))
        names = [each.name for each in tree.body if isinstance(each, (ast.FunctionDef, ast.ClassDef))]
        names += [each.targets[0].id for each in tree.body if isinstance(each, ast.Assign)]
        for alias in node.names:
            self.assertIsNone(alias.asname)
            self.assertIn(alias.name, names)

    def test_no_two_files_import_from_each_other(self):
        needs = {path.stem: {node.module.split(".")[1] for node in ast.walk(tree) if isinstance(node, ast.ImportFrom)}
                 for path, tree in trees()}
        while needs:
            free = [name for name, others in needs.items() if not others & set(needs)]
            self.assertTrue(free, needs)
            for name in free:
                del needs[name]

    def test_imports_are_used_and_not_hidden(self):
        for path, tree in trees():
            imported = [alias.name for node in tree.body if isinstance(node, ast.ImportFrom) for alias in node.names]
            self.assertEqual(len(imported), len(set(imported)), path.name)
            names = [node for node in ast.walk(tree) if isinstance(node, ast.Name)]
            for name in imported:
                self.assertIn(name, [node.id for node in names], path.name)
            stored = [node.id for node in names if isinstance(node.ctx, ast.Store)]
            stored += [node.arg for node in ast.walk(tree) if isinstance(node, ast.arg)]
            self.assertEqual(set(stored) & set(imported), set(), path.name)

    def test_stars(self):
        for path, tree in trees():
            for node in ast.walk(tree):
                if isinstance(node, ast.Call):
                    for each in node.args:
                        if isinstance(each, ast.Starred):
                            self.assertIsInstance(each.value, (ast.Name, ast.Attribute), (path.name, node.lineno))
                    self.assertEqual([word.arg for word in node.keywords], [], (path.name, node.lineno))

    def test_names(self):
        builtin = set(dir(builtins))
        for path, tree in trees():
            for node in ast.walk(tree):
                if isinstance(node, ast.Name) and node.id in builtin:
                    self.assertIsInstance(node.ctx, ast.Load, (path.name, node.lineno))
                    self.assertIn(node.id, BUILTINS, (path.name, node.lineno))
                if isinstance(node, (ast.arg, ast.FunctionDef, ast.ClassDef)):
                    name = node.arg if isinstance(node, ast.arg) else node.name
                    self.assertNotIn(name, builtin, (path.name, node.lineno))


if __name__ == "__main__":
    unittest.main()

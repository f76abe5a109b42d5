"""What the interface lists, and what the package keeps away from: point 1."""

import ast
import importlib
import inspect
import pathlib
import unittest

FOLDER = pathlib.Path(__file__).resolve().parent.parent / "splittalk"

FUNCTIONS = [
    ("splittalk.table", "whole", "(table)"),
    ("splittalk.table", "results", "(table, part)"),
    ("splittalk.formula", "read_formula", "(text)"),
    ("splittalk.formula", "formula_text", "(formula)"),
    ("splittalk.formula", "formula_table", "(formula, rows, columns)"),
    ("splittalk.parts", "row_groups", "(table, part)"),
    ("splittalk.parts", "column_groups", "(table, part)"),
    ("splittalk.parts", "pieces", "(table)"),
    ("splittalk.parts", "is_barred", "(table, part)"),
    ("splittalk.talk", "fits", "(table, talk)"),
    ("splittalk.talk", "longest", "(talk)"),
    ("splittalk.talk", "chances", "(talk, row, column)"),
    ("splittalk.away", "open_at", "(table, talk)"),
    ("splittalk.away", "gaps", "(table, talk)"),
    ("splittalk.split", "settle", "(table)"),
    ("splittalk.split", "judge", "(table, found)"),
    ("splittalk.program", "read_program", "(text)"),
    ("splittalk.program", "program_text", "(program)"),
    ("splittalk.run", "talk_of", "(program)"),
    ("splittalk.coarse", "merged", "(table, grouping)"),
    ("splittalk.coarse", "least_groupings", "(table)"),
    ("splittalk.coarse", "beside", "(one, other)"),
    ("splittalk.paper", "paper_lines", "(found)"),
    ("splittalk.paper", "read_paper", "(table, lines)"),
]
CLASSES = [
    ("splittalk.ratio", "Ratio", "(num, den=1)",
     ("__add__", "__sub__", "__mul__", "__eq__", "__str__", "less")),
    ("splittalk.table", "Table", "(rows)", ("__eq__",)),
    ("splittalk.talk", "End", "()", ("__eq__",)),
    ("splittalk.talk", "Say", "(person, lots, parts)", ("__eq__",)),
    ("splittalk.split", "Found", "(kind, talk, part)", ("__eq__",)),
    ("splittalk.program", "Program", "(rows, columns, variables, block)", ("__eq__",)),
]
ERRORS = ("TalkError", "BadText", "BadPaper", "BadTable", "BadTalk", "TooLarge", "BadRatio")


class Interface(unittest.TestCase):

    def test_functions(self):
        for module, name, arguments in FUNCTIONS:
            found = getattr(importlib.import_module(module), name)
            self.assertEqual(found.__module__, module)
            self.assertEqual(str(inspect.signature(found)), arguments)

    def test_classes(self):
        for module, name, arguments, methods in CLASSES:
            found = getattr(importlib.import_module(module), name)
            self.assertEqual(found.__module__, module)
            self.assertEqual(str(inspect.signature(found)), arguments)
            for method in methods:
                self.assertIn(method, found.__dict__)

    def test_errors(self):
        for name in ERRORS:
            found = getattr(importlib.import_module("splittalk.errors"), name)
            self.assertEqual(found.__module__, "splittalk.errors")


class Package(unittest.TestCase):

    def trees(self):
        paths = sorted(FOLDER.rglob("*.py"))
        self.assertTrue(paths)
        return [(path, ast.parse(path.read_text(encoding="utf-8"))) for path in paths]

    def test_imports_nothing_that_tells_time_or_chance_or_files(self):
        for path, tree in self.trees():
            for node in ast.walk(tree):
                self.assertNotIsInstance(node, ast.Import, path)
                if isinstance(node, ast.ImportFrom):
                    self.assertIn(node.module.split(".")[0], ("splittalk", "math"), path)

    def test_asks_for_no_files_or_input(self):
        for path, tree in self.trees():
            names = [node.id for node in ast.walk(tree) if isinstance(node, ast.Name)]
            for name in ("open", "input", "print", "eval", "exec"):
                self.assertNotIn(name, names, path)

    def test_sizes(self):
        for path, tree in self.trees():
            lines = path.read_text(encoding="ascii").split("\n")
            self.assertLess(len(lines), 400, path)
            self.assertLessEqual(max(len(line) for line in lines), 120, path)
            for node in ast.walk(tree):
                if isinstance(node, ast.FunctionDef):
                    self.assertLessEqual(node.end_lineno - node.lineno + 1, 40, node.name)

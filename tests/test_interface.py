"""What holds of all files of the package: where things stand, and what they use."""

import ast
import inspect
import pathlib
import unittest

from windowdog import judging, pats, plans, tasks, watch

PACKAGE = pathlib.Path(__file__).resolve().parent.parent / "windowdog"


class Interface(unittest.TestCase):
    def assert_stands(self, module, name, parameters):
        told = getattr(module, name)
        self.assertTrue(inspect.isfunction(told))
        self.assertEqual(told.__module__, module.__name__)
        self.assertEqual(list(inspect.signature(told).parameters), parameters)

    def test_bitten_at(self):
        self.assert_stands(watch, "bitten_at", ["window", "pats", "end"])

    def test_run_plan(self):
        self.assert_stands(plans, "run_plan", ["plan", "delays"])

    def test_judged(self):
        self.assert_stands(judging, "judged", ["window", "plan"])

    def test_pats(self):
        self.assert_stands(pats, "plan_with", ["works", "places"])
        self.assert_stands(pats, "fewest", ["window", "works"])
        self.assert_stands(pats, "levels_from", ["window", "works", "first"])
        self.assert_stands(pats, "shown", ["window", "works", "many"])

    def test_tasks(self):
        self.assert_stands(tasks, "keeper_pats", ["beat", "reports", "end"])
        self.assert_stands(tasks, "found_at", ["window", "beat", "reports", "end"])
        self.assert_stands(tasks, "steady", ["window", "beat", "tasks"])


class NothingFromOutside(unittest.TestCase):
    """No clock, no chance and no files: nothing but the package itself is used."""

    def trees(self):
        files = sorted(PACKAGE.rglob("*.py"))
        self.assertIn("watch.py", [file.name for file in files])
        return [(file.name, ast.parse(file.read_text("ascii"))) for file in files]

    def test_imports_are_of_the_package(self):
        for name, tree in self.trees():
            for node in ast.walk(tree):
                self.assertNotIsInstance(node, ast.Import, name)
                if isinstance(node, ast.ImportFrom):
                    self.assertEqual((node.level, node.module.split(".")[0]), (0, "windowdog"), name)

    def test_no_builtin_reaches_outside(self):
        barred = {"open", "input", "print", "eval", "exec", "compile", "hash", "id", "__import__"}
        for name, tree in self.trees():
            used = {node.id for node in ast.walk(tree) if isinstance(node, ast.Name)}
            self.assertEqual(used & barred, set(), name)


if __name__ == "__main__":
    unittest.main()

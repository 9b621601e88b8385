"""The interface as it is listed, and the form of the package's files."""

import ast
import builtins
import os
import unittest

from listing import PACKAGE

INTERFACE = {
    "errors": {},
    "runs": {"is_days": "thing", "run": "days cap start", "totals": "days cap start"},
    "lots": {"is_lot": "days thing", "worth": "days lot", "best": "days many", "lots_of_best": "days many",
             "bests": "days", "best_lot": "days many", "nth_lot": "days many number", "next_stretch": "days lot"},
    "mirror": {"spilled": "days cap", "spill_lot": "days cap", "spills": "days", "bests_of": "told", "spills_of": "told",
               "days_of": "told", "cap_for": "days most", "shows": "days cap many", "caps_that_show": "days many"},
    "begins": {"most_spilled": "days cap start", "most_lacking": "days cap start"},
    "fives": {"is_five": "cap thing", "five": "days cap", "led": "cap five start", "joined": "cap five other",
              "few_days": "cap five", "ends_from": "days cap"},
    "vessels": {"vessels": "days caps"},
    "seen": {"can_be": "bounds cap looks", "days_for": "bounds cap looks moment content",
             "first_wrong": "bounds cap looks"},
    "rounds": {"stays": "days cap", "rounds": "days cap start", "round_of": "days cap start many"},
    "everycap": {"core": "days", "by_core": "core cap start", "apart": "days other"},
    "texts": {"show_days": "days", "show_lot": "lot", "show_five": "five", "show_core": "core", "show_bounds": "bounds",
              "show_looks": "looks", "read_days": "text", "read_lot": "text", "read_five": "text", "read_core": "text",
              "read_bounds": "text", "read_looks": "text"},
}

ERRORS = ["TankError", "NoDays", "NoCap", "NoStart", "NoMany", "NoLot", "NotBest", "NoNumber", "NoMirror", "NoMost",
          "NoFive", "NoCaps", "NoBounds", "NoLooks", "NoMoment", "NoContent", "NoCore", "TooMany", "NoText"]

TREES = {}
for name in sorted(os.listdir(PACKAGE)):
    if name != "__pycache__":
        with open(os.path.join(PACKAGE, name), "rb") as file:
            TREES[name] = file.read()


def functions_of(tree):
    return [node for node in ast.walk(tree) if isinstance(node, ast.FunctionDef)]


class Interface(unittest.TestCase):
    def test_functions_are_defined_where_they_are_listed(self):
        for module, listed in INTERFACE.items():
            found = {node.name: " ".join(part.arg for part in node.args.args)
                     for node in ast.parse(TREES[module + ".py"]).body if isinstance(node, ast.FunctionDef)}
            for function, arguments in listed.items():
                self.assertEqual(found.get(function), arguments, (module, function))

    def test_errors_are_defined_where_they_are_listed(self):
        classes = [node.name for node in ast.parse(TREES["errors.py"]).body if isinstance(node, ast.ClassDef)]
        self.assertEqual(sorted(classes), sorted(ERRORS))


class Form(unittest.TestCase):
    def test_files(self):
        for name, data in TREES.items():
            self.assertRegex(name, "^[a-z_]+[.]py$")
            self.assertTrue(all(sign == 10 or 32 <= sign <= 126 for sign in data), name)
            lines = data.decode().split("\n")
            self.assertLess(len(lines), 400, name)
            self.assertLessEqual(max(map(len, lines)), 120, name)

    def test_functions_have_at_most_forty_lines(self):
        for name, data in TREES.items():
            for node in functions_of(ast.parse(data)):
                self.assertLessEqual(node.end_lineno - node.lineno + 1, 40, (name, node.name))

    def test_imports_come_from_the_package_alone(self):
        for name, data in TREES.items():
            for node in ast.walk(ast.parse(data)):
                self.assertNotIsInstance(node, ast.Import, name)
                if isinstance(node, ast.ImportFrom):
                    self.assertRegex(node.module, "^spillmirror[.]", name)

    def test_no_name_is_a_builtin_or_an_import(self):
        for name, data in TREES.items():
            tree = ast.parse(data)
            taken = set(dir(builtins))
            imported = {part.name for node in ast.walk(tree) if isinstance(node, ast.ImportFrom) for part in node.names}
            for node in ast.walk(tree):
                if isinstance(node, ast.Name) and isinstance(node.ctx, ast.Store):
                    self.assertNotIn(node.id, taken | imported, name)
                if isinstance(node, ast.arg):
                    self.assertNotIn(node.arg, taken | imported, name)

    def test_no_floats(self):
        for name, data in TREES.items():
            for node in ast.walk(ast.parse(data)):
                self.assertNotIsInstance(node, (ast.Div, ast.Global, ast.AsyncFunctionDef), name)
                if isinstance(node, ast.Constant):
                    self.assertNotIsInstance(node.value, (float, complex), name)


if __name__ == "__main__":
    unittest.main()

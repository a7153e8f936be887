"""Which file defines what, what it imports, and how large it is."""

import ast
import importlib
import inspect
import pathlib
import unittest

PACKAGE = pathlib.Path(__file__).resolve().parent.parent / "scooprow"
MODULES = ["errors", "rows", "sweeps", "exchanges", "trains", "advance", "times", "walks", "connecting",
           "certificates", "carriers", "watching", "yards", "logs", "texts", "console"]
SIGNATURES = {
    "rows": {"Row": "(contents=(), capacities=())", "is_row_like": "(contents, capacities)"},
    "sweeps": {"passed": "(capacity, load, box_capacity, count)", "sweep": "(row, capacity)",
               "unsweep": "(row, capacity)", "picked": "(row, capacity)",
               "halfway": "(row, capacity, index)", "trace": "(row, capacity)"},
    "exchanges": {"exchanged": "(left, right)", "shifted": "(row, index)", "plain_form": "(row)",
                  "with_capacities": "(row, capacities)"},
}
LIBRARY = ["heapq", "math", "itertools", "collections"]


def source_files():
    return sorted(PACKAGE.glob("*.py"))


def parsed(path):
    return ast.parse(path.read_text(encoding="ascii"))


class InterfaceTest(unittest.TestCase):
    def test_init_defines_nothing(self):
        body = parsed(PACKAGE / "__init__.py").body
        self.assertTrue(all(isinstance(part, ast.Expr) and isinstance(part.value, ast.Constant)
                            for part in body))

    def test_only_the_files_of_the_interface(self):
        names = {path.stem for path in source_files()}
        self.assertLessEqual(names, {"__init__"} | set(MODULES))
        self.assertLessEqual({"__init__", "errors", "rows", "sweeps", "exchanges"}, names)

    def test_definitions_stand_in_their_file(self):
        for module, signatures in SIGNATURES.items():
            found = importlib.import_module("scooprow." + module)
            defined = [part.name for part in parsed(PACKAGE / (module + ".py")).body
                       if isinstance(part, (ast.FunctionDef, ast.ClassDef))]
            for name, signature in signatures.items():
                self.assertIn(name, defined)
                self.assertEqual(str(inspect.signature(getattr(found, name))), signature)

    def test_methods_stand_in_the_class(self):
        row_class = importlib.import_module("scooprow.rows").Row
        self.assertLessEqual({"contents", "capacities", "held", "capacity", "total", "is_plain", "__eq__"},
                             set(vars(row_class)))
        for name in ("contents", "capacities"):
            self.assertIsInstance(vars(row_class)[name], property)
        self.assertEqual(str(inspect.signature(row_class.held)), "(self, index)")
        self.assertEqual(str(inspect.signature(row_class.capacity)), "(self, index)")

    def test_imports_only_from_earlier_modules(self):
        for path in source_files():
            for part in ast.walk(parsed(path)):
                self.assertNotIsInstance(part, ast.Import)
                if not isinstance(part, ast.ImportFrom) or part.module in LIBRARY:
                    continue
                package, _, module = part.module.partition(".")
                self.assertEqual((package, part.level), ("scooprow", 0))
                self.assertLess(MODULES.index(module), MODULES.index(path.stem))

    def test_sizes(self):
        for path in source_files():
            lines = path.read_text(encoding="ascii").split("\n")
            self.assertLess(len(lines), 400)
            self.assertLessEqual(max(len(line) for line in lines), 120)
            for part in ast.walk(parsed(path)):
                if isinstance(part, ast.FunctionDef):
                    self.assertLessEqual(part.end_lineno - part.lineno + 1, 40, part.name)


if __name__ == "__main__":
    unittest.main()

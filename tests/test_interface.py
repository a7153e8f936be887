"""Which file defines what, what it imports, and how large it is."""

import ast
import importlib
import inspect
import pathlib
import unittest

PACKAGE = pathlib.Path(__file__).resolve().parent.parent / "scooprow"
MODULES = ["errors", "rows", "sweeps", "exchanges", "trains", "advance", "times", "walks", "connecting",
           "certificates", "carriers", "watching", "yards", "logs", "texts", "console"]
SIGNATURES = {
    "rows": {"Row": "(contents=(), capacities=())", "is_row_like": "(contents, capacities)"},
    "sweeps": {"passed": "(capacity, load, box_capacity, count)", "sweep": "(row, capacity)",
               "unsweep": "(row, capacity)", "picked": "(row, capacity)",
               "halfway": "(row, capacity, index)", "trace": "(row, capacity)"},
    "exchanges": {"exchanged": "(left, right)", "shifted": "(row, index)", "plain_form": "(row)",
                  "with_capacities": "(row, capacities)"},
    "trains": {"cut": "(row)", "trains": "(row)", "lengths": "(row)",
               "row_of": "(trains, capacities=())"},
    "advance": {"advance": "(row, counts)", "picked_in_all": "(row, counts)",
                "sorted_after": "(row)", "runs": "(row)"},
    "times": {"seen": "(row, capacity, index)", "given_up": "(row, capacity, index)"},
    "walks": {"Walk": "(row, capacities)"},
    "connecting": {"connect": "(row, other, *, backward=True)", "fewest": "(row, other)",
                   "least_number": "(row, other)"},
    "certificates": {"certificate": "(row, other, *, backward=True)",
                     "is_certificate": "(row, other, value, *, backward=True)"},
    "carriers": {"led_by": "(row, other, capacities)", "is_bar": "(row, other, capacities, value)",
                 "loops": "(row, capacities)"},
    "watching": {"Watch": "(row, limits)"},
    "yards": {"Yard": "()"},
    "logs": {"entries": "(operations)", "first_wrong": "(log)"},
    "texts": {"row_text": "(row)", "parse_row": "(text)", "counts_text": "(counts)",
              "parse_counts": "(text)"},
    "console": {"Console": "()"},
}
METHODS = {
    ("rows", "Row"): {"held": "(self, index)", "capacity": "(self, index)", "total": "(self)",
                      "is_plain": "(self)", "__eq__": "(self, other)"},
    ("walks", "Walk"): {"step": "(self, k)", "swap": "(self, k)", "at": "(self, k)", "now": "(self)",
                        "ended": "(self)", "copy": "(self)"},
    ("watching", "Watch"): {"look": "(self, counts)", "look_all": "(self, row)", "possible": "(self)",
                            "outcomes": "(self)", "counts_at": "(self, index)", "many": "(self)",
                            "history": "(self, vector)", "sure": "(self, capacity, low, high)",
                            "probe": "(self)"},
    ("yards", "Yard"): {"do": "(self, operation)", "do_all": "(self, operations)", "undo": "(self)",
                        "redo": "(self)", "names": "(self)", "row": "(self, name)",
                        "trains_of": "(self, name)", "analyses": "(self)", "log": "(self)",
                        "copy": "(self)", "__eq__": "(self, other)"},
    ("console", "Console"): {"answer": "(self, line)"},
}
LIBRARY = ["heapq", "math", "itertools", "collections"]


def source_files():
    return sorted(PACKAGE.glob("*.py"))


def parsed(path):
    return ast.parse(path.read_text(encoding="ascii"))


class InterfaceTest(unittest.TestCase):
    def test_init_defines_nothing(self):
        body = parsed(PACKAGE / "__init__.py").body
        self.assertTrue(all(isinstance(part, ast.Expr) and isinstance(part.value, ast.Constant)
                            for part in body))

    def test_exactly_the_files_of_the_interface(self):
        names = {path.stem for path in source_files()}
        self.assertEqual(names, {"__init__"} | set(MODULES))
        self.assertEqual({"errors"} | set(SIGNATURES), set(MODULES))

    def test_definitions_stand_in_their_file(self):
        for module, signatures in SIGNATURES.items():
            found = importlib.import_module("scooprow." + module)
            defined = [part.name for part in parsed(PACKAGE / (module + ".py")).body
                       if isinstance(part, (ast.FunctionDef, ast.ClassDef))]
            for name, signature in signatures.items():
                self.assertIn(name, defined)
                self.assertEqual(str(inspect.signature(getattr(found, name))), signature)

    def test_methods_stand_in_the_class(self):
        for (module, name), methods in METHODS.items():
            found = vars(getattr(importlib.import_module("scooprow." + module), name))
            for method, signature in methods.items():
                self.assertEqual(str(inspect.signature(found[method])), signature)

    def test_properties_stand_in_the_class(self):
        row_class = importlib.import_module("scooprow.rows").Row
        for name in ("contents", "capacities"):
            self.assertIsInstance(vars(row_class)[name], property)

    def test_imports_only_from_earlier_modules(self):
        for path in source_files():
            for part in ast.walk(parsed(path)):
                self.assertNotIsInstance(part, ast.Import)
                if not isinstance(part, ast.ImportFrom) or part.module in LIBRARY:
                    continue
                package, _, module = part.module.partition(".")
                self.assertEqual((package, part.level), ("scooprow", 0))
                self.assertLess(MODULES.index(module), MODULES.index(path.stem))

    def test_sizes(self):
        for path in source_files():
            lines = path.read_text(encoding="ascii").split("\n")
            self.assertLess(len(lines), 400)
            self.assertLessEqual(max(len(line) for line in lines), 120)
            for part in ast.walk(parsed(path)):
                if isinstance(part, ast.FunctionDef):
                    self.assertLessEqual(part.end_lineno - part.lineno + 1, 40, part.name)


if __name__ == "__main__":
    unittest.main()

"""The interface: its names, arguments and files."""

import ast
import importlib
import inspect
import unittest
from pathlib import Path

PACKAGE = Path(__file__).resolve().parent.parent / "panplan"
INTERFACE = {
    "errors": {"PanError": None, "BadCount": None, "BadCases": None, "BadDone": None},
    "cases": {"need_cases": ["many", "cases"]},
    "pans": {"leading": ["many"], "is_weighing": ["many", "thing"], "came": ["weighing", "case"]},
    "opening": {"still_open": ["many", "cases", "done"]},
    "plans": {"is_plan": ["many", "cases", "thing"], "length_of": ["plan"], "walked": ["plan", "case"]},
    "holds": {"is_hold": ["many", "cases", "number", "thing"]},
    "telling": {"told": ["many", "cases", "done"], "least": ["many", "cases", "done"]},
}


class Interface(unittest.TestCase):
    def test_each_name_is_defined_in_its_file(self):
        for file, names in INTERFACE.items():
            tree = ast.parse((PACKAGE / (file + ".py")).read_text())
            defined = {node.name: type(node) for node in tree.body if hasattr(node, "name")}
            for name, arguments in names.items():
                with self.subTest(file=file, name=name):
                    self.assertIs(defined.get(name), ast.ClassDef if arguments is None else ast.FunctionDef)

    def test_each_function_has_its_arguments(self):
        for file, names in INTERFACE.items():
            module = importlib.import_module("panplan." + file)
            for name, arguments in names.items():
                if arguments is not None:
                    with self.subTest(file=file, name=name):
                        told = inspect.signature(getattr(module, name)).parameters
                        self.assertEqual(list(told), arguments)
                        self.assertTrue(all(one.default is one.empty for one in told.values()))


if __name__ == "__main__":
    unittest.main()

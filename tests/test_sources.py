"""Point 1: nothing here uses a clock, chance or files. And what the package's folder holds."""

import ast
import unittest
from pathlib import Path

PACKAGE = Path(__file__).resolve().parent.parent / "panplan"
LIBRARY = {"itertools": {"combinations"}}
REACHING_OUT = {"open", "input", "print", "eval", "exec", "compile", "breakpoint", "id", "hash", "__import__"}


def sources():
    return sorted(PACKAGE.glob("*.py"))


class Sources(unittest.TestCase):
    def test_the_folder_holds_files_of_the_program_only(self):
        there = [path.name for path in PACKAGE.iterdir() if path.name != "__pycache__"]
        self.assertEqual(sorted(there), [path.name for path in sources()])
        self.assertIn("__init__.py", there)

    def test_imports_come_from_the_package_or_reckon_only(self):
        for path in sources():
            for node in ast.walk(ast.parse(path.read_text())):
                self.assertNotIsInstance(node, ast.Import, path.name)
                if isinstance(node, ast.ImportFrom) and not node.module.startswith("panplan."):
                    for alias in node.names:
                        self.assertIn(alias.name, LIBRARY.get(node.module, set()), path.name)

    def test_no_name_reaches_out_of_the_program(self):
        for path in sources():
            for node in ast.walk(ast.parse(path.read_text())):
                if isinstance(node, ast.Name):
                    self.assertNotIn(node.id, REACHING_OUT, path.name)


if __name__ == "__main__":
    unittest.main()

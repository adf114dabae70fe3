"""The form of the package: which files it holds, what they import, and how long they are."""

import ast
import pathlib
import unittest

PACKAGE = pathlib.Path(__file__).resolve().parent.parent / "settledlines"


def sources():
    return {path: path.read_text(encoding="utf-8") for path in sorted(PACKAGE.rglob("*.py"))}


class Package(unittest.TestCase):
    def test_only_python_files(self):
        paths = [path for path in PACKAGE.rglob("*") if "__pycache__" not in path.parts]
        self.assertTrue((PACKAGE / "__init__.py").is_file())
        self.assertEqual([path for path in paths if path.suffix != ".py"], [])

    def test_lines_and_characters(self):
        for path, source in sources().items():
            lines = source.split("\n")
            self.assertLessEqual(len(lines), 399, path)
            self.assertLessEqual(max(len(line) for line in lines), 120, path)
            self.assertTrue(all(" " <= character <= "~" or character == "\n" for character in source), path)

    def test_length_of_functions(self):
        for path, source in sources().items():
            for node in ast.walk(ast.parse(source)):
                if isinstance(node, ast.FunctionDef):
                    self.assertLessEqual(node.end_lineno - node.lineno + 1, 40, f"{path}: {node.name}")

    def test_imports_come_from_the_package(self):
        for path, source in sources().items():
            for node in ast.walk(ast.parse(source)):
                self.assertNotIsInstance(node, ast.Import, path)
                if isinstance(node, ast.ImportFrom):
                    self.assertEqual(node.level, 0, path)
                    self.assertTrue(node.module.startswith("settledlines."), path)


if __name__ == "__main__":
    unittest.main()

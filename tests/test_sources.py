import ast
import pathlib
import unittest

PACKAGE = pathlib.Path(__file__).resolve().parent.parent / "cranefloor"

REACHING_OUT = ["open", "input", "print", "exec", "eval", "compile", "globals", "breakpoint"]


class Sources(unittest.TestCase):
    def nodes(self):
        files = sorted(PACKAGE.glob("*.py"))
        self.assertIn("floors.py", [file.name for file in files])
        for file in files:
            for node in ast.walk(ast.parse(file.read_text(encoding="ascii"))):
                yield file.name, node

    def test_nothing_is_drawn_from_outside_the_package(self):
        # A clock, chance and files all come by an import or by a name of Python's own.
        for name, node in self.nodes():
            self.assertNotIsInstance(node, ast.Import, name)
            if isinstance(node, ast.ImportFrom):
                self.assertEqual(node.level, 0, name)
                self.assertEqual(node.module.split(".")[0], "cranefloor", name)

    def test_no_name_reaches_outside(self):
        for name, node in self.nodes():
            if isinstance(node, ast.Name):
                self.assertNotIn(node.id, REACHING_OUT, name)
                self.assertFalse(node.id.startswith("__"), name)


if __name__ == "__main__":
    unittest.main()

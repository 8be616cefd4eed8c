"""What the package's files may hold: above all no clock, no chance and no file, so nothing from outside."""

import ast
import builtins
import pathlib
import unittest

PACKAGE = pathlib.Path(__file__).resolve().parent.parent / "uprow"
FILES = sorted(PACKAGE.glob("**/*.py"))
OWN_NAMES = set(
    "len range enumerate zip min max sum abs sorted reversed int str bool list tuple dict set frozenset isinstance "
    "ord repr any all divmod Exception ValueError TypeError KeyError IndexError LookupError ZeroDivisionError "
    "ArithmeticError OverflowError RuntimeError NotImplementedError AttributeError StopIteration".split()
)


def nodes(file, kind):
    return [node for node in ast.walk(ast.parse(file.read_text())) if isinstance(node, kind)]


class Package(unittest.TestCase):
    def test_nothing_but_modules_lies_in_it(self):
        found = [path for path in PACKAGE.rglob("*") if "__pycache__" not in path.parts and path.is_file()]
        self.assertEqual(sorted(found), FILES)
        self.assertIn(PACKAGE / "__init__.py", FILES)

    def test_only_its_own_modules_are_imported(self):
        for file in FILES:
            self.assertEqual(nodes(file, ast.Import), [], file.name)
            for row in nodes(file, ast.ImportFrom):
                self.assertEqual((row.level, row.module.split(".")[0]), (0, "uprow"), file.name)

    def test_no_other_name_of_pythons_own_is_used(self):
        for file in FILES:
            used = {node.id for node in nodes(file, ast.Name)}
            self.assertEqual(used & set(dir(builtins)) - OWN_NAMES, set(), file.name)

    def test_no_float_and_no_plain_division(self):
        for file in FILES:
            self.assertEqual(nodes(file, ast.Div), [], file.name)
            for value in nodes(file, ast.Constant):
                self.assertNotIsInstance(value.value, (float, complex, bytes), file.name)

    def test_sizes_and_signs(self):
        for file in FILES:
            words = file.read_bytes()
            self.assertTrue(all(32 <= sign <= 126 or sign == 10 for sign in words), file.name)
            rows = words.split(b"\n")
            self.assertLessEqual(len(rows), 400, file.name)
            self.assertLessEqual(max(len(row) for row in rows), 120, file.name)
            for function in nodes(file, ast.FunctionDef):
                self.assertLessEqual(function.end_lineno - function.lineno + 1, 40, function.name)


if __name__ == "__main__":
    unittest.main()

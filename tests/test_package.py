import ast
import unittest
from pathlib import Path

PACKAGE = Path(__file__).resolve().parent.parent / "ratehall"


def trees():
    return [(path.name, ast.parse(path.read_text(encoding="ascii"))) for path in sorted(PACKAGE.glob("*.py"))]


class TestNoClockChanceOrFiles(unittest.TestCase):
    """Clock, chance and files are reached through outside modules or through `open`: the package has neither."""

    def test_the_modules_are_there(self):
        names = [name for name, tree in trees()]
        for name in ("__init__", "errors", "numbers", "names", "hall", "pieces", "rates", "floor", "rounds", "rooms",
                     "least", "joins", "mill", "code", "notes", "desk"):
            self.assertIn(name + ".py", names)

    def test_only_modules_of_the_package_are_imported(self):
        for name, tree in trees():
            for node in ast.walk(tree):
                with self.subTest(name=name, line=getattr(node, "lineno", None)):
                    self.assertNotIsInstance(node, ast.Import)
                    if isinstance(node, ast.ImportFrom):
                        self.assertEqual(node.level, 0)
                        self.assertEqual(node.module.split(".")[0], "ratehall")

    def test_no_way_out_of_the_program(self):
        for name, tree in trees():
            for node in ast.walk(tree):
                if isinstance(node, ast.Name):
                    with self.subTest(name=name, line=node.lineno):
                        self.assertNotIn(node.id, ("open", "input", "eval", "exec", "compile", "hash", "id", "__import__"))


if __name__ == "__main__":
    unittest.main()

import ast
import pathlib
import unittest

PACKAGE = pathlib.Path(__file__).resolve().parent.parent / "spanbook"


def sources():
    return {path: path.read_text(encoding="utf-8") for path in sorted(PACKAGE.glob("*.py"))}


class Package(unittest.TestCase):
    def test_nothing_but_its_sources(self):
        others = [path.name for path in PACKAGE.iterdir() if path.suffix != ".py" and path.name != "__pycache__"]
        self.assertEqual(others, [])
        self.assertIn(PACKAGE / "__init__.py", sources())

    def test_no_clock_chance_or_files(self):
        # Without a module from outside the package, and without open, there is no way to any of them.
        for path, text in sources().items():
            for node in ast.walk(ast.parse(text)):
                with self.subTest(file=path.name):
                    self.assertNotIsInstance(node, ast.Import)
                    if isinstance(node, ast.ImportFrom):
                        self.assertEqual(node.level, 0)
                        self.assertTrue(node.module.startswith("spanbook."))
                    if isinstance(node, ast.Name):
                        self.assertNotIn(node.id, ["open", "input", "print", "eval", "exec", "__import__", "hash", "id"])

    def test_sizes_and_signs(self):
        for path, text in sources().items():
            with self.subTest(file=path.name):
                lines = text.split("\n")
                self.assertLessEqual(len(lines), 400)
                self.assertLessEqual(max(len(line) for line in lines), 120)
                self.assertTrue(all(sign == "\n" or " " <= sign <= "~" for sign in text))
                for node in ast.walk(ast.parse(text)):
                    if isinstance(node, ast.FunctionDef):
                        self.assertLessEqual(node.end_lineno - node.lineno + 1, 40)


if __name__ == "__main__":
    unittest.main()

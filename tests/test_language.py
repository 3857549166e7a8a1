"""The rules of LANGUAGE.md that can be looked up file by file without running the program."""

import ast
import os
import unittest

from keptandsaid import errors

FOLDER = os.path.join(os.path.dirname(os.path.dirname(os.path.abspath(__file__))), "keptandsaid")
BUILTINS = """len range enumerate zip min max sum abs sorted reversed int str bool list tuple dict set isinstance ord repr
any all divmod ValueError""".split()
NOT_USED = "type typing enum register mro elements open input law eval exec dir vars globals locals".split()


def sources():
    for name in sorted(os.listdir(FOLDER)):
        if name.endswith(".py"):
            with open(os.path.join(FOLDER, name), encoding="utf-8") as file:
                yield name, file.read()


def imported(tree):
    return [node.module for node in ast.walk(tree) if isinstance(node, ast.ImportFrom)]


class Language(unittest.TestCase):
    def test_folder_holds_nothing_else(self):
        for name in os.listdir(FOLDER):
            if name != "__pycache__":
                self.assertRegex(name, r"^[a-z_]+\.py$")

    def test_signs_and_sizes(self):
        for name, text in sources():
            self.assertTrue(all(sign == "\n" or " " <= sign <= "~" for sign in text), name)
            lines = text.split("\n")
            self.assertLessEqual(len(lines), 399, name)
            self.assertLessEqual(max(len(line) for line in lines), 120, name)
            for node in ast.walk(ast.parse(text)):
                if isinstance(node, ast.FunctionDef):
                    self.assertLessEqual(node.end_lineno - node.lineno + 1, 40, (name, node.name))

    def test_imports(self):
        needs = {}
        for name, text in sources():
            tree = ast.parse(text)
            for node in ast.walk(tree):
                self.assertNotIsInstance(node, ast.Import, name)
                if isinstance(node, ast.ImportFrom):
                    self.assertIn(node, tree.body, name)
                    self.assertTrue(node.module.startswith("keptandsaid."), (name, node.module))
                    self.assertTrue(all(alias.name != "*" for alias in node.names), name)
            needs["keptandsaid." + name[:-3]] = imported(tree)
        while needs:
            free = [name for name, others in needs.items() if not any(other in needs for other in others)]
            self.assertTrue(free, needs)
            needs = {name: others for name, others in needs.items() if name not in free}

    def test_no_rarer_parts_of_python(self):
        barred = (
            ast.GeneratorExp, ast.AsyncFunctionDef, ast.Await, ast.Global, ast.Lambda, ast.Yield, ast.YieldFrom, ast.Set,
            ast.Div, ast.AnnAssign, ast.With, ast.NamedExpr, ast.Match, ast.Nonlocal, ast.SetComp,
        )
        for name, text in sources():
            for node in ast.walk(ast.parse(text)):
                self.assertNotIsInstance(node, barred, name)
                self.assertEqual(getattr(node, "decorator_list", []), [], name)
                if isinstance(node, ast.Constant) and not isinstance(node.value, str):
                    self.assertIsInstance(node.value, (int, type(None)), name)
                if isinstance(node, ast.Try):
                    # Own errors may be caught around anything.
                    self.assertEqual(node.finalbody, [], name)
                    for handler in node.handlers:
                        self.assertTrue(issubclass(getattr(errors, handler.type.id), errors.SayError), name)

    def test_names(self):
        for name, text in sources():
            tree = ast.parse(text)
            own = {node.name for node in ast.walk(tree) if isinstance(node, (ast.FunctionDef, ast.ClassDef))}
            own |= {alias.name for node in tree.body if isinstance(node, ast.ImportFrom) for alias in node.names}
            stored = set()
            for node in ast.walk(tree):
                if isinstance(node, ast.Name) and isinstance(node.ctx, ast.Store):
                    stored.add(node.id)
                if isinstance(node, ast.arg):
                    stored.add(node.arg)
            for word in stored | own:
                self.assertNotIn(word, BUILTINS + NOT_USED, name)
            for node in ast.walk(tree):
                if isinstance(node, ast.Name) and isinstance(node.ctx, ast.Load):
                    self.assertIn(node.id, own | stored | set(BUILTINS), name)
            top = {node.name for node in tree.body if isinstance(node, (ast.FunctionDef, ast.ClassDef))}
            names = {alias.name for node in tree.body if isinstance(node, ast.ImportFrom) for alias in node.names}
            self.assertEqual(top & names, set(), name)
            self.assertEqual(stored & names, set(), name)


if __name__ == "__main__":
    unittest.main()

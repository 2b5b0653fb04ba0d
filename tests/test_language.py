"""The rules of the language that can be counted, over the files of the package."""

import ast
import builtins
import pathlib
import unittest

import orplaces

FOLDER = pathlib.Path(orplaces.__file__).parent
FILES = sorted(FOLDER.glob("*.py"))


class LanguageTest(unittest.TestCase):
    def test_nothing_but_files_of_the_language(self):
        others = [path.name for path in FOLDER.iterdir() if path not in FILES and path.name != "__pycache__"]
        self.assertEqual(others, [])

    def test_sizes_and_characters(self):
        for path in FILES:
            lines = path.read_text().split("\n")
            self.assertLessEqual(len(lines) - 1, 399, path.name)
            for line in lines:
                self.assertLessEqual(len(line), 120, path.name)
                self.assertTrue(all(" " <= sign <= "~" for sign in line), path.name)
            for node in ast.walk(ast.parse(path.read_text())):
                if isinstance(node, ast.FunctionDef):
                    self.assertLessEqual(node.end_lineno - node.lineno + 1, 40, node.name)

    def test_imports(self):
        imports = {}
        for path in FILES:
            named = [node for node in ast.walk(ast.parse(path.read_text()))
                     if isinstance(node, (ast.Import, ast.ImportFrom))]
            for node in named:
                self.assertIsInstance(node, ast.ImportFrom, path.name)
                self.assertTrue(node.level == 0 and node.module.startswith("orplaces."), path.name)
            imports[path.stem] = {node.module.removeprefix("orplaces.") for node in named}
        while imports:
            free = [name for name in imports if not imports[name] & imports.keys()]
            self.assertTrue(free, f"these import from each other: {sorted(imports)}")
            imports = {name: imports[name] for name in imports if name not in free}

    def test_generator_names_are_used_once(self):
        functions = [node for path in FILES for node in ast.walk(ast.parse(path.read_text()))
                     if isinstance(node, ast.FunctionDef)]
        names = [node.name for node in functions]
        for node in functions:
            if any(isinstance(inner, (ast.Yield, ast.YieldFrom)) for inner in ast.walk(node)):
                self.assertEqual(names.count(node.name), 1, node.name)

    def test_builtins_and_methods_of_builtin_values(self):
        allowed = set("""len range enumerate zip min max sum abs sorted reversed int str bool list tuple dict set isinstance
            repr any all ValueError TypeError NotImplementedError property staticmethod classmethod""".split())
        methods = set("""append clear copy count endswith extend find get index insert items join keys lower partition pop
            remove replace reverse setdefault sort split startswith strip update upper values""".split())
        trees = {path.name: ast.parse(path.read_text()) for path in FILES}
        own = {node.name for tree in trees.values() for node in ast.walk(tree) if isinstance(node, ast.FunctionDef)}
        for name, tree in trees.items():
            for node in ast.walk(tree):
                if isinstance(node, ast.Name) and hasattr(builtins, node.id):
                    self.assertIn(node.id, allowed, name)
                    self.assertIsInstance(node.ctx, ast.Load, name)
                if isinstance(node, ast.Call) and isinstance(node.func, ast.Attribute):
                    self.assertIn(node.func.attr, methods | own, name)
                self.assertNotIsInstance(node, (ast.GeneratorExp, ast.Lambda, ast.Global, ast.SetComp), name)

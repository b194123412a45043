"""Whether the files of the package keep to the subset of Python in which the program is written."""

import ast
import builtins
import pathlib
import re
import unittest

FOLDER = pathlib.Path(__file__).resolve().parent.parent / "calltrim"
FILES = sorted(FOLDER.glob("*.py"))
ALLOWED_BUILTINS = set(
    "len range enumerate zip min max sum abs sorted reversed int str bool list tuple dict set isinstance ord repr "
    "any all divmod ValueError TypeError KeyError NotImplemented".split())
BARRED_NODES = (
    ast.AsyncFunctionDef, ast.Await, ast.GeneratorExp, ast.Yield, ast.YieldFrom, ast.Global, ast.Nonlocal, ast.Try,
    ast.With, ast.Match, ast.Lambda, ast.Div, ast.AnnAssign, ast.NamedExpr)
ALLOWED_METHODS = set(
    "append count endswith extend find get index insert isdigit items join keys pop remove replace reverse setdefault "
    "split startswith strip values partition".split())
SPECIAL_METHODS = {"__init__", "__eq__", "__str__", "__len__", "__iter__", "__getitem__", "__add__"}
BARRED_WORDS = re.compile(
    r"\b(type|typing|enum|Enum|Generic|Protocol|ABC|namedtuple|NamedTuple|TypedDict|law|elements|mro)\b")


def tree_of(path):
    return ast.parse(path.read_text(encoding="ascii"))


def nodes_of(path, *kinds):
    return [node for node in ast.walk(tree_of(path)) if isinstance(node, kinds)]


def imported_names(path):
    return {alias.name: node.module for node in nodes_of(path, ast.ImportFrom) for alias in node.names}


def defined_names(path):
    found = {}
    for node in tree_of(path).body:
        if isinstance(node, (ast.FunctionDef, ast.ClassDef)):
            found[node.name] = node
        elif isinstance(node, ast.Assign):
            found[node.targets[0].id] = node
    return found


def local_names(path):
    names = {node.id for node in nodes_of(path, ast.Name) if isinstance(node.ctx, ast.Store)}
    names |= {argument.arg for argument in nodes_of(path, ast.arg)}
    return names - set(defined_names(path))


class FormTest(unittest.TestCase):
    def test_files(self):
        inside = [path for path in FOLDER.iterdir() if path.name != "__pycache__"]
        self.assertEqual(sorted(inside), FILES)
        for path in FILES:
            text = path.read_text(encoding="ascii")
            self.assertNotIn("\t", text)
            lines = text.split("\n")
            self.assertLessEqual(len(lines), 399, path.name)
            self.assertLessEqual(max(map(len, lines)), 120, path.name)
            self.assertIsNone(BARRED_WORDS.search(re.sub(r'"""(.|\n)*?"""|#.*', "", text)), path.name)

    def test_functions_are_small(self):
        for path in FILES:
            for node in nodes_of(path, ast.FunctionDef):
                self.assertLessEqual(node.end_lineno - node.lineno + 1, 40, node.name)
                self.assertEqual(node.decorator_list, [])
                self.assertTrue(not node.name.startswith("__") or node.name in SPECIAL_METHODS, node.name)

    def test_statements_and_signs(self):
        for path in FILES:
            for node in nodes_of(path, *BARRED_NODES):
                self.fail(f"{path.name}:{node.lineno}")
            for node in nodes_of(path, ast.Constant):
                self.assertNotIsInstance(node.value, float)
                self.assertFalse(isinstance(node.value, str) and "%" in node.value)
            for node in nodes_of(path, ast.Compare):
                for sign, value in zip(node.ops, node.comparators):
                    if isinstance(sign, (ast.Is, ast.IsNot)):
                        self.assertIsInstance(value, ast.Constant)

    def test_imports(self):
        for path in FILES:
            self.assertEqual(nodes_of(path, ast.Import), [])
            text = path.read_text()
            for name, module in imported_names(path).items():
                source = FOLDER / (module.removeprefix("calltrim.") + ".py")
                self.assertIn(name, defined_names(source), f"{path.name} imports {name}")
                self.assertGreater(len(re.findall(rf"\b{name}\b", text)), 1, f"{path.name} does not use {name}")

    def test_no_two_files_import_from_each_other(self):
        modules = {path.stem: {module.removeprefix("calltrim.") for module in imported_names(path).values()}
                   for path in FILES}
        done = set()

        def reach(name, ahead):
            self.assertNotIn(name, ahead)
            for module in sorted(modules[name] - done):
                reach(module, ahead + [name])
            done.add(name)

        for path in FILES:
            reach(path.stem, [])

    def test_names(self):
        for path in FILES:
            names = local_names(path)
            self.assertEqual(names & set(imported_names(path)), set(), path.name)
            self.assertEqual((names | set(defined_names(path))) & set(dir(builtins)), set(), path.name)
            for node in nodes_of(path, ast.Name):
                if node.id in dir(builtins):
                    self.assertIn(node.id, ALLOWED_BUILTINS, f"{path.name}:{node.lineno}")

    def test_methods_of_builtin_values(self):
        own = {node.name for path in FILES for kind in nodes_of(path, ast.ClassDef)
               for node in kind.body if isinstance(node, ast.FunctionDef)}
        for path in FILES:
            for node in nodes_of(path, ast.Call):
                if isinstance(node.func, ast.Attribute):
                    self.assertIn(node.func.attr, ALLOWED_METHODS | own, f"{path.name}:{node.lineno}")

    def test_modules_hold_plain_things_alone(self):
        for path in FILES:
            for node in tree_of(path).body:
                docstring = isinstance(node, ast.Expr) and isinstance(node.value, ast.Constant)
                kinds = (ast.ImportFrom, ast.FunctionDef, ast.ClassDef, ast.Assign)
                self.assertTrue(docstring or isinstance(node, kinds), f"{path.name}:{node.lineno}")

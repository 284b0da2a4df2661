"""The form of the package's files, as far as it can be seen from their trees."""

import ast
import builtins
import pathlib
import re
import unittest

PACKAGE = pathlib.Path(__file__).resolve().parent.parent / "twosenders"
FILES = sorted(path for path in PACKAGE.iterdir() if path.name != "__pycache__")

STATEMENTS = (ast.Assign, ast.AugAssign, ast.If, ast.While, ast.For, ast.Return, ast.Break, ast.Continue, ast.Pass,
              ast.Raise, ast.Try, ast.Expr, ast.FunctionDef, ast.ClassDef, ast.ImportFrom)
EXPRESSIONS = (ast.Constant, ast.List, ast.Tuple, ast.Dict, ast.BinOp, ast.UnaryOp, ast.BoolOp, ast.Compare, ast.IfExp,
               ast.Call, ast.Attribute, ast.Subscript, ast.Slice, ast.ListComp, ast.Name)
OWN_NAMES = set("""len range enumerate zip min max sum abs sorted reversed int str bool list tuple dict isinstance ord
repr any all divmod""".split())
METHODS = set("""append clear copy count endswith extend find get index insert items join keys pop remove replace
reverse setdefault split startswith strip update values begin""".split())
WORDS = re.compile(r"\b(type|typing|typing_extensions|enum|Enum|IntEnum|StrEnum|Flag|IntFlag|Generic|Protocol|ABC|"
                   r"ABCMeta|namedtuple|NamedTuple|TypedDict|TYPE_CHECKING|abstractmethod)\b|"
                   r"dataclass|overload|contextmanager")


def nodes(kind):
    for path in FILES:
        for node in ast.walk(ast.parse(path.read_text())):
            if isinstance(node, kind):
                yield path, node


def own_modules(path):
    return [node.module for node in ast.parse(path.read_text()).body if isinstance(node, ast.ImportFrom)]


class Language(unittest.TestCase):
    def test_plain_files_alone(self):
        for path in FILES:
            self.assertRegex(path.name, r"^[a-z0-9_]+\.py$")
            self.assertNotIn(path.stem, dir(builtins))
        self.assertIn(PACKAGE / "__init__.py", FILES)

    def test_signs_and_sizes(self):
        for path in FILES:
            text = path.read_text(encoding="ascii")
            self.assertLessEqual(len(text.splitlines()), 400, path)
            for line in text.split("\n"):
                self.assertTrue(len(line) <= 120 and (line == "" or line.isprintable()), (path, line))
            self.assertIsNone(WORDS.search(text), path)
        for path, node in nodes(ast.FunctionDef):
            self.assertLess(node.end_lineno - node.lineno, 40, (path, node.name))

    def test_statements_and_expressions(self):
        for path, node in nodes(ast.stmt):
            self.assertIsInstance(node, STATEMENTS, (path, node.lineno))
        for path, node in nodes(ast.expr):
            self.assertIsInstance(node, EXPRESSIONS, (path, node.lineno))
        for path, node in nodes(ast.Assign):
            self.assertEqual([isinstance(target, (ast.Name, ast.Attribute, ast.Subscript)) for target in node.targets],
                             [True], (path, node.lineno))
        for path, node in nodes((ast.For, ast.While)):
            self.assertEqual(node.orelse, [], (path, node.lineno))
        for path, node in nodes(ast.Constant):
            self.assertNotIsInstance(node.value, (float, complex, bytes), (path, node.lineno))
        for path, node in nodes((ast.Div, ast.Is, ast.IsNot)):
            self.assertNotIsInstance(node, ast.Div, path)

    def test_none_alone_stands_beside_is(self):
        for path, node in nodes(ast.Compare):
            for operator, side in zip(node.ops, node.comparators):
                if isinstance(operator, (ast.Is, ast.IsNot)):
                    self.assertIsInstance(side, ast.Constant, (path, node.lineno))

    def test_functions(self):
        for path, node in nodes(ast.FunctionDef):
            self.assertEqual(node.decorator_list, [], path)
            self.assertIsNone(node.args.vararg or node.args.kwarg, path)
            self.assertEqual(node.args.kwonlyargs + node.args.posonlyargs, [], path)

    def test_names(self):
        for path, node in nodes(ast.Name):
            self.assertFalse(node.id.startswith("_"), (path, node.lineno))
            if node.id in dir(builtins):
                self.assertIn(node.id, OWN_NAMES, (path, node.lineno))
                self.assertIsInstance(node.ctx, ast.Load, (path, node.lineno))
        for path, node in nodes(ast.arg):
            self.assertNotIn(node.arg, dir(builtins), (path, node.lineno))

    def test_no_local_is_called_like_a_name_of_its_files_top(self):
        for path in FILES:
            tree = ast.parse(path.read_text())
            top = {node.name for node in tree.body if isinstance(node, (ast.FunctionDef, ast.ClassDef))}
            for node in tree.body:
                if isinstance(node, ast.ImportFrom):
                    top |= {name.name for name in node.names}
            for node in ast.walk(tree):
                if isinstance(node, ast.arg):
                    self.assertNotIn(node.arg, top, path)
                if isinstance(node, ast.Name) and isinstance(node.ctx, ast.Store):
                    self.assertNotIn(node.id, top, path)

    def test_methods(self):
        for path, node in nodes(ast.Call):
            if isinstance(node.func, ast.Attribute):
                self.assertIn(node.func.attr, METHODS, (path, node.lineno))

    def test_imports_are_the_packages_own_without_a_ring(self):
        drawn = {"twosenders." + path.stem: own_modules(path) for path in FILES}
        for path, node in nodes(ast.ImportFrom):
            self.assertIn(node.module, drawn, path)
            defined = {item.name for item in ast.parse((PACKAGE / (node.module.split(".")[1] + ".py")).read_text()).body
                       if isinstance(item, (ast.FunctionDef, ast.ClassDef))}
            constants = {name.name for name in node.names if name.name.isupper()}
            self.assertLessEqual({name.name for name in node.names} - constants, defined, path)
        while drawn:
            free = [name for name in drawn if not set(drawn[name]) & set(drawn)]
            self.assertTrue(free, drawn)
            for name in free:
                drawn.pop(name)


if __name__ == "__main__":
    unittest.main()

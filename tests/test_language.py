"""The package's files keep to the part of Python that this program is written in."""

import ast
import builtins
import pathlib
import re
import unittest

PACKAGE = pathlib.Path(__file__).resolve().parent.parent / "copperrules"
FILES = sorted(path for path in PACKAGE.rglob("*") if "__pycache__" not in path.parts)
STATEMENTS = (ast.FunctionDef, ast.ClassDef, ast.Assign, ast.AugAssign, ast.If, ast.While, ast.For, ast.Return,
              ast.Break, ast.Continue, ast.Pass, ast.Raise, ast.Try, ast.Expr, ast.ImportFrom)
BARRED = (ast.Div, ast.SetComp, ast.DictComp, ast.GeneratorExp, ast.NamedExpr, ast.Starred, ast.Set, ast.Await,
          ast.JoinedStr, ast.AnnAssign, ast.MatMult)
OWN_NAMES = set("""len range enumerate zip min max sum abs sorted reversed int str bool list tuple dict set frozenset
isinstance ord repr any all divmod Exception ValueError TypeError KeyError IndexError LookupError ZeroDivisionError
ArithmeticError OverflowError RuntimeError NotImplementedError AttributeError StopIteration""".split())
METHODS = set("""append clear copy count endswith extend find get index insert isalnum isalpha isdigit islower isspace
isupper items join keys ljust lower lstrip partition pop remove replace reverse rfind rjust rpartition rsplit rstrip
setdefault split splitlines startswith strip update upper values zfill bit_length""".split())
WORDS = r"\b(type|typing|typing_extensions|enum|Enum|IntEnum|StrEnum|Flag|IntFlag|Generic|Protocol|ABC|ABCMeta|" \
        r"namedtuple|NamedTuple|TypedDict|TYPE_CHECKING|abstractmethod)\b|dataclass|overload|contextmanager"
PYTHONS_OWN = [str, int, list, dict, set, bytes, tuple]


class Language(unittest.TestCase):
    def each(self, *kinds):
        for path in FILES:
            for node in ast.walk(ast.parse(path.read_text())):
                if isinstance(node, kinds):
                    yield node, f"{path.name}:{getattr(node, 'lineno', 0)}"

    def test_files(self):
        for path in FILES:
            self.assertRegex(path.name, r"^(__init__|[a-z][a-z0-9_]*)\.py$")
            self.assertNotIn(path.stem, dir(builtins))
            text = path.read_text(encoding="ascii")
            self.assertRegex(text, r"\A[ -~\n]*\Z")
            self.assertIsNone(re.search(WORDS, text), path.name)
            self.assertLessEqual(len(text.splitlines()), 400, path.name)
            self.assertLessEqual(max(map(len, text.splitlines())), 120, path.name)

    def test_functions_are_small_and_plain(self):
        for node, where in self.each(ast.FunctionDef):
            self.assertLessEqual(node.end_lineno - node.lineno + 1, 40, where)
            self.assertEqual(node.decorator_list, [], where)
            told = node.args
            self.assertFalse(told.vararg or told.kwarg or told.kwonlyargs or told.posonlyargs, where)

    def test_classes(self):
        methods, values = set(), set()
        for node, where in self.each(ast.ClassDef):
            self.assertTrue(all(isinstance(part, ast.FunctionDef) for part in node.body), where)
            methods |= {part.name for part in node.body}
        for node, where in self.each(ast.Attribute):
            if isinstance(node.ctx, ast.Store):
                values.add(node.attr)
                self.assertFalse(any(hasattr(kind, node.attr) for kind in PYTHONS_OWN), where)
        self.assertEqual(methods & values, set())
        for name in methods - {"__init__"}:
            self.assertFalse(any(hasattr(kind, name) for kind in PYTHONS_OWN), name)
        for node, where in self.each(ast.Attribute):
            self.assertIn(node.attr, methods | values | METHODS, where)

    def test_statements_and_expressions(self):
        for node, where in self.each(ast.stmt):
            self.assertIsInstance(node, STATEMENTS, where)
            if isinstance(node, (ast.For, ast.While)):
                self.assertEqual(node.orelse, [], where)
            if isinstance(node, ast.Assign):
                self.assertEqual(len(node.targets), 1, where)
                self.assertNotIsInstance(node.targets[0], (ast.Tuple, ast.List), where)
        for node, where in self.each(ast.AST):
            self.assertNotIsInstance(node, BARRED, where)
        for node, where in self.each(ast.ListComp):
            self.assertTrue(len(node.generators) == 1 and len(node.generators[0].ifs) <= 1, where)
        for node, where in self.each(ast.Constant):
            self.assertIsInstance(node.value, (int, str, type(None)), where)

    def test_is_stands_beside_none_alone(self):
        for node, where in self.each(ast.Compare):
            for sign, right in zip(node.ops, node.comparators):
                if isinstance(sign, (ast.Is, ast.IsNot)):
                    self.assertIn(ast.dump(right), ("Constant(value=None)",), where)

    def test_names(self):
        barred = set(dir(builtins)) - OWN_NAMES - {"True", "False", "None"}
        for node, where in self.each(ast.Name):
            self.assertRegex(node.id, r"^[A-Za-z][A-Za-z0-9_]*$", where)
            self.assertNotIn(node.id, barred, where)
            if not isinstance(node.ctx, ast.Load):
                self.assertNotIn(node.id, OWN_NAMES, where)
        for node, where in self.each(ast.arg):
            self.assertNotIn(node.arg, dir(builtins), where)

    def test_no_local_is_called_like_an_import_a_class_or_a_function(self):
        for path in FILES:
            tree = ast.parse(path.read_text())
            top = {part.name for part in tree.body if isinstance(part, (ast.FunctionDef, ast.ClassDef))}
            for part in tree.body:
                if isinstance(part, ast.ImportFrom):
                    top |= {name.name for name in part.names}
            for part in ast.walk(tree):
                if isinstance(part, ast.arg):
                    self.assertNotIn(part.arg, top, path.name)
                if isinstance(part, ast.Name) and isinstance(part.ctx, ast.Store):
                    self.assertNotIn(part.id, top, path.name)

    def test_imports(self):
        drawn = {}
        for path in FILES:
            tree = ast.parse(path.read_text())
            for part in ast.walk(tree):
                self.assertNotIsInstance(part, ast.Import)
                if isinstance(part, ast.ImportFrom):
                    self.assertIn(part, tree.body)
                    self.assertTrue(part.module.startswith("copperrules."))
                    self.assertEqual(part.level, 0)
                    self.check_defined(part)
                    drawn.setdefault(path.stem, set()).add(part.module.split(".")[1])
        while drawn:
            free = [name for name in drawn if not drawn[name] & set(drawn)]
            self.assertTrue(free, "files draw from one another: " + str(sorted(drawn)))
            drawn = {name: drawn[name] for name in drawn if name not in free}

    def check_defined(self, part):
        tree = ast.parse((PACKAGE / (part.module.split(".")[1] + ".py")).read_text())
        defined = {node.name for node in tree.body if isinstance(node, (ast.FunctionDef, ast.ClassDef))}
        for node in tree.body:
            if isinstance(node, ast.Assign):
                defined.add(node.targets[0].id)
        for name in part.names:
            self.assertIn(name.name, defined)
            self.assertIsNone(name.asname)

    def test_all_that_is_imported_or_defined_is_used(self):
        everything = "".join(path.read_text() for path in FILES)
        for node, where in self.each(ast.ImportFrom, ast.FunctionDef):
            names = [name.name for name in node.names] if isinstance(node, ast.ImportFrom) else [node.name]
            text = (PACKAGE / where.split(":")[0]).read_text() if isinstance(node, ast.ImportFrom) else everything
            for name in names:
                if name not in ("__init__", "answers"):
                    self.assertGreater(len(re.findall(rf"\b{name}\b", text)), 1, (where, name))


if __name__ == "__main__":
    unittest.main()

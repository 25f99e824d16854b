"""The form of the package's files: what is easily seen of L1 to L8, L10, L12, L14, L16 to L18, L20 and L27.

The other rules (L9, L11, L13, L15, L19, L21 to L26, L28) are not looked at here; they are kept by reading.
"""

import ast
import builtins
import pathlib
import re
import unittest

import maybetables

FOLDER = pathlib.Path(maybetables.__file__).parent
FILES = sorted(path for path in FOLDER.rglob("*.py") if "__pycache__" not in path.parts)

BUILT_IN = set("""len range enumerate zip min max sum abs sorted reversed int str bool list tuple dict set frozenset
    isinstance ord repr any all divmod Exception ValueError TypeError KeyError IndexError LookupError
    ZeroDivisionError ArithmeticError OverflowError RuntimeError NotImplementedError AttributeError StopIteration
    print object float bytes __name__ __all__ __version__""".split())
METHODS = {"__init__", "__eq__", "__repr__", "__str__", "__len__"}
NO_WORDS = set("""type typing typing_extensions enum Enum IntEnum StrEnum Flag IntFlag Generic Protocol ABC ABCMeta
    namedtuple NamedTuple TypedDict TYPE_CHECKING abstractmethod""".split())
NO_ATTRIBUTES = set("""register mro elements open input version_info with_traceback add_note format format_map
    f_back tb_next co_names sort""".split())
NO_NODES = (ast.With, ast.Match, ast.Delete, ast.Global, ast.Nonlocal, ast.Assert, ast.Yield, ast.YieldFrom,
            ast.Await, ast.AsyncFor, ast.AsyncFunctionDef, ast.AsyncWith, ast.SetComp, ast.DictComp,
            ast.GeneratorExp, ast.NamedExpr, ast.Starred, ast.Div, ast.MatMult, ast.Import)


def nodes(kind):
    """(file name, node) for each node of a kind in the package."""
    found = []
    for path in FILES:
        for node in ast.walk(ast.parse(path.read_text(encoding="utf-8"))):
            if isinstance(node, kind):
                found.append((path.name, node))
    return found


class LanguageTest(unittest.TestCase):
    def none_of(self, found):
        self.assertEqual([(name, node.lineno) for name, node in found], [])

    def test_files(self):
        self.assertEqual(FOLDER.name, "maybetables")
        self.assertIn("__init__.py", [path.name for path in FILES])
        for path in FOLDER.rglob("*"):
            if "__pycache__" not in path.parts:
                self.assertRegex(path.name, r"^[a-z0-9_]+(\.py)?$")
                self.assertTrue(path.is_dir() or path.suffix == ".py", path)

    def test_signs_and_words(self):
        for path in FILES:
            text = path.read_bytes().decode("utf-8")
            with self.subTest(path=path.name):
                self.assertIsNone(re.search(r"[^ -~\n]", text))
                self.assertEqual(sorted(set(re.findall(r"\w+", text)) & NO_WORDS), [])
                self.assertIsNone(re.search("dataclass|overload|contextmanager", text))

    def test_size(self):
        for path in FILES:
            lines = path.read_text(encoding="utf-8").split("\n")
            self.assertLessEqual(len(lines), 401, path.name)
            self.assertLessEqual(max(len(line) for line in lines), 120, path.name)
        for name, node in nodes(ast.FunctionDef):
            self.assertLessEqual(node.end_lineno - node.lineno + 1, 40, (name, node.name))

    def test_no_statement_or_expression_from_outside(self):
        self.none_of([(name, node) for name, node in nodes(NO_NODES) if hasattr(node, "lineno")
                      and not (name == "__main__.py" and isinstance(node, ast.Import))])
        self.assertEqual(nodes((ast.Div, ast.MatMult)), [])
        self.none_of([(name, node) for name, node in nodes((ast.For, ast.While)) if node.orelse])
        self.none_of([(name, node) for name, node in nodes(ast.Try) if node.finalbody])
        self.none_of([(name, node) for name, node in nodes(ast.Assign) if len(node.targets) > 1])
        self.none_of([(name, node) for name, node in nodes(ast.ListComp)
                      if len(node.generators) > 1 or len(node.generators[0].ifs) > 1])
        self.none_of([(name, node) for name, node in nodes(ast.Constant)
                      if isinstance(node.value, (float, complex, bytes))])

    def test_no_sign_of_parts_in_texts(self):
        self.none_of([(name, node) for name, node in nodes(ast.Constant)
                      if isinstance(node.value, str) and "%" in node.value])

    def test_is_beside_none_true_and_false_alone(self):
        for name, node in nodes(ast.Compare):
            sides = [node.left] + node.comparators
            for number, sign in enumerate(node.ops):
                if isinstance(sign, (ast.Is, ast.IsNot)):
                    plain = [isinstance(side, ast.Constant) and side.value in (None, True, False)
                             for side in sides[number:number + 2]]
                    self.assertTrue(any(plain), (name, node.lineno))

    def test_imports(self):
        drawn = {path.stem: [] for path in FILES}
        for name, node in nodes(ast.ImportFrom):
            if node.module == "__future__":
                continue
            self.assertEqual(node.level, 0, name)
            self.assertTrue(node.module.startswith("maybetables."), (name, node.module))
            self.assertNotIn("*", [alias.name for alias in node.names], name)
            drawn[name[:-len(".py")]].append(node.module.split(".")[-1])
        while drawn:
            free = [name for name in drawn if not any(other in drawn for other in drawn[name])]
            self.assertTrue(free, drawn)
            drawn = {name: drawn[name] for name in drawn if name not in free}

    def test_tops(self):
        kinds = (ast.ImportFrom, ast.FunctionDef, ast.ClassDef, ast.Assign)
        for path in FILES:
            body = ast.parse(path.read_text(encoding="utf-8")).body
            if ast.get_docstring(ast.Module(body, [])) is not None:
                body = body[1:]
            if path.name != "__main__.py":
                self.none_of([(path.name, node) for node in body if not isinstance(node, kinds)])

    def test_functions(self):
        self.none_of([(name, node) for name, node in nodes((ast.FunctionDef, ast.ClassDef)) if node.decorator_list])
        self.none_of([(name, node) for name, node in nodes((ast.FunctionDef, ast.Lambda))
                      if node.args.vararg or node.args.kwarg or node.args.kwonlyargs or node.args.posonlyargs])

    def test_classes(self):
        methods, fields = set(), set()
        for name, node in nodes(ast.ClassDef):
            self.assertLessEqual(len(node.bases), 1, node.name)
            self.assertEqual(node.keywords, [], node.name)
            for part in node.body:
                if isinstance(part, ast.FunctionDef):
                    methods.add(part.name)
                    self.assertTrue(part.name in METHODS or not part.name.startswith("__"), part.name)
                else:
                    self.assertTrue(isinstance(part, ast.Pass) or isinstance(part, ast.Expr)
                                    and isinstance(part.value, ast.Constant), node.name)
        for name, node in nodes(ast.Attribute):
            self.assertNotIn(node.attr, NO_ATTRIBUTES, (name, node.lineno))
            if isinstance(node.ctx, ast.Store):
                fields.add(node.attr)
        self.assertEqual(sorted(methods & fields), [])

    def test_names(self):
        for name, node in nodes(ast.Name):
            where = (name, node.lineno, node.id)
            if hasattr(builtins, node.id):
                self.assertIn(node.id, BUILT_IN, where)
                self.assertIsInstance(node.ctx, ast.Load, where)
            self.assertTrue(node.id in BUILT_IN or re.match(r"^[A-Za-z][A-Za-z0-9_]*$", node.id), where)
        for name, node in nodes(ast.arg):
            self.assertRegex(node.arg, r"^[A-Za-z][A-Za-z0-9_]*$", name)
            self.assertFalse(hasattr(builtins, node.arg), (name, node.lineno, node.arg))


if __name__ == "__main__":
    unittest.main()

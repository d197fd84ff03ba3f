"""Those rules of ../shared/LANGUAGE.md that a walk through the package's trees can see."""

import ast
import builtins
import pathlib
import re
import unittest

PACKAGE = pathlib.Path(__file__).resolve().parent.parent / "tieseek"
FILES = sorted(PACKAGE.rglob("*.py"))

STATEMENTS = (
    ast.FunctionDef, ast.ClassDef, ast.Return, ast.Assign, ast.AugAssign, ast.For, ast.While, ast.If,
    ast.Raise, ast.Try, ast.ImportFrom, ast.Expr, ast.Pass, ast.Break, ast.Continue,
)
EXPRESSIONS = (
    ast.BoolOp, ast.BinOp, ast.UnaryOp, ast.Lambda, ast.IfExp, ast.Dict, ast.Set, ast.ListComp, ast.Compare,
    ast.Call, ast.FormattedValue, ast.JoinedStr, ast.Constant, ast.Attribute, ast.Subscript, ast.Name,
    ast.List, ast.Tuple, ast.Slice,
)
TOP = (ast.FunctionDef, ast.ClassDef, ast.Assign, ast.ImportFrom)

OWN_NAMES = (
    "len range enumerate zip min max sum abs sorted reversed int str bool list tuple dict set frozenset "
    "isinstance ord repr any all divmod Exception ValueError TypeError KeyError IndexError LookupError "
    "ZeroDivisionError ArithmeticError OverflowError RuntimeError NotImplementedError AttributeError StopIteration"
).split()
OWN_METHODS = (
    "append clear copy count endswith extend find get index insert isalnum isalpha isdigit islower isspace "
    "isupper items join keys ljust lower lstrip partition pop remove replace reverse rfind rjust rpartition "
    "rsplit rstrip setdefault split splitlines startswith strip update upper values zfill bit_length"
).split()
TWO_UNDERSCORES = ("__init__", "__eq__", "__repr__", "__str__", "__len__")
WORDS_OUT = (
    r"\b(type|typing|typing_extensions|enum|Enum|IntEnum|StrEnum|Flag|IntFlag|Generic|Protocol|ABC|ABCMeta"
    r"|namedtuple|NamedTuple|TypedDict|TYPE_CHECKING|abstractmethod)\b|dataclass|overload|contextmanager"
)
NAMES_OUT = "register mro elements open input version_info with_traceback add_note format format_map".split()


def nodes(path):
    return list(ast.walk(ast.parse(path.read_text())))


def defined(path):
    """The names that a file's top defines itself."""
    found = []
    for part in ast.parse(path.read_text()).body:
        if isinstance(part, (ast.FunctionDef, ast.ClassDef)):
            found.append(part.name)
        if isinstance(part, ast.Assign):
            found.append(part.targets[0].id)
    return found


def drawn(path):
    """The names that a file draws from others, with the file of each."""
    return [(part.module, alias.name) for part in nodes(path) if isinstance(part, ast.ImportFrom)
            for alias in part.names]


def module_path(module):
    return PACKAGE.parent / (module.replace(".", "/") + ".py")


class Language(unittest.TestCase):
    def each(self, *sorts):
        """The nodes of these sorts in all files, each with the place where it stands."""
        return [(f"{path.name}:{getattr(node, 'lineno', 0)}", node) for path in FILES for node in nodes(path)
                if isinstance(node, sorts)]

    def test_files(self):
        self.assertIn(PACKAGE / "__init__.py", FILES)
        for path in PACKAGE.rglob("*"):
            if "__pycache__" not in path.parts:
                self.assertRegex(path.name, r"\A(__init__|__main__|[a-z][a-z0-9_]*)\.py\Z")
                self.assertNotIn(path.stem, dir(builtins))

    def test_sizes_and_signs(self):
        for path in FILES:
            with self.subTest(path.name):
                text = path.read_bytes().decode("utf-8")
                self.assertRegex(text, r"\A[ -~\n]*\Z")
                self.assertLessEqual(len(text.splitlines()), 400)
                self.assertLessEqual(max(len(line) for line in text.splitlines()), 120)
                self.assertNotRegex(text, WORDS_OUT)

    def test_functions(self):
        for place, node in self.each(ast.FunctionDef):
            with self.subTest(place):
                self.assertLessEqual(node.end_lineno - node.lineno + 1, 40)
                self.assertEqual(node.decorator_list, [])
                self.assertIsNone(node.args.vararg or node.args.kwarg)
                self.assertEqual(node.args.kwonlyargs + node.args.posonlyargs, [])
                for value in node.args.defaults:
                    self.assertIsInstance(value, ast.Constant)

    def test_classes(self):
        for place, node in self.each(ast.ClassDef):
            with self.subTest(place):
                self.assertLessEqual(len(node.bases), 1)
                self.assertEqual(node.decorator_list + node.keywords, [])
                for part in node.body:
                    self.assertIsInstance(part, (ast.FunctionDef, ast.Pass))

    def test_statements(self):
        for place, node in self.each(ast.stmt):
            with self.subTest(place):
                self.assertIsInstance(node, STATEMENTS)
                if isinstance(node, ast.Assign):
                    self.assertEqual(len(node.targets), 1)
                if isinstance(node, (ast.For, ast.While)):
                    self.assertEqual(node.orelse, [])
                if isinstance(node, ast.Try):
                    self.assertEqual(node.finalbody, [])

    def test_expressions(self):
        for place, node in self.each(ast.expr):
            with self.subTest(place):
                self.assertIsInstance(node, EXPRESSIONS)
                if isinstance(node, ast.ListComp):
                    self.assertEqual(len(node.generators), 1)
                    self.assertLessEqual(len(node.generators[0].ifs), 1)
                if isinstance(node, ast.Constant):
                    self.assertIn(node.value.__class__, (int, str, bool, type(None)))
                if isinstance(node, ast.Compare) and isinstance(node.ops[0], (ast.Is, ast.IsNot)):
                    self.assertIsInstance(node.comparators[0], ast.Constant)

    def test_reckoning(self):
        for place, node in self.each(ast.BinOp):
            with self.subTest(place):
                self.assertNotIsInstance(node.op, (ast.Div, ast.MatMult))
                if isinstance(node.op, ast.Pow):
                    self.assertIsInstance(node.right, ast.Constant)
                    self.assertIn(node.right.value, range(65))

    def test_top(self):
        for path in FILES:
            top = ast.parse(path.read_text()).body
            with self.subTest(path.name):
                self.assertIsInstance(top[0], ast.Expr)
                for part in top[1:]:
                    self.assertIsInstance(part, TOP)
                bound = defined(path) + [name for module, name in drawn(path)]
                self.assertEqual(len(bound), len(set(bound)))

    def test_imports(self):
        for path in FILES:
            for module, name in drawn(path):
                with self.subTest(file=path.name, name=name):
                    self.assertTrue(module.startswith("tieseek."))
                    self.assertIn(name, defined(module_path(module)))
        for place, node in self.each(ast.ImportFrom):
            with self.subTest(place):
                self.assertEqual(node.level, 0)

    def test_no_ring_of_imports(self):
        ahead = {path: {module_path(module) for module, name in drawn(path)} for path in FILES}
        while ahead:
            free = [path for path in ahead if not ahead[path] & set(ahead)]
            self.assertNotEqual(free, [], "files that draw from one another")
            for path in free:
                ahead.pop(path)

    def test_names(self):
        for place, node in self.each(ast.AST):
            for name in self.names_in(node):
                with self.subTest(place=place, name=name):
                    self.assertNotIn(name, NAMES_OUT)
                    if name not in TWO_UNDERSCORES:
                        self.assertRegex(name, r"\A[A-Za-z][A-Za-z0-9_]*\Z")

    def names_in(self, node):
        if isinstance(node, (ast.FunctionDef, ast.ClassDef)):
            return [node.name]
        if isinstance(node, ast.Name):
            return [node.id]
        if isinstance(node, ast.arg):
            return [node.arg]
        if isinstance(node, ast.Attribute):
            return [node.attr]
        return []

    def test_names_of_pythons_own(self):
        for place, node in self.each(ast.Name, ast.arg):
            with self.subTest(place):
                if isinstance(node, ast.arg):
                    self.assertNotIn(node.arg, dir(builtins))
                elif node.id in dir(builtins):
                    self.assertIn(node.id, OWN_NAMES)
                    self.assertIsInstance(node.ctx, ast.Load)

    def test_locals_are_not_called_like_imports_or_classes(self):
        for path in FILES:
            classes = [node.name for node in nodes(path) if isinstance(node, ast.ClassDef)]
            taken = classes + [name for module, name in drawn(path)]
            for node in nodes(path):
                with self.subTest(file=path.name, line=getattr(node, "lineno", 0)):
                    if isinstance(node, ast.Name) and isinstance(node.ctx, ast.Store):
                        self.assertNotIn(node.id, taken)
                    if isinstance(node, ast.arg):
                        self.assertNotIn(node.arg, taken)

    def test_methods(self):
        methods = [part.name for place, node in self.each(ast.ClassDef) for part in node.body
                   if isinstance(part, ast.FunctionDef)]
        stored = [node.attr for place, node in self.each(ast.Attribute) if isinstance(node.ctx, ast.Store)]
        self.assertEqual(set(methods) & set(stored), set())
        for place, node in self.each(ast.Call):
            with self.subTest(place):
                if isinstance(node.func, ast.Attribute):
                    self.assertIn(node.func.attr, OWN_METHODS + methods)

    def test_texts(self):
        for path in FILES:
            for text in re.findall(r"\\.", path.read_text()):
                self.assertIn(text, ("\\n", "\\t", "\\\\", "\\'", '\\"'))
        for place, node in self.each(ast.Constant):
            with self.subTest(place):
                self.assertNotIn("%", str(node.value))


if __name__ == "__main__":
    unittest.main()

"""Those rules of ../shared/LANGUAGE.md that a walk through the package's trees can see."""

import ast
import builtins
import pathlib
import re
import unittest

PACKAGE = pathlib.Path(__file__).resolve().parent.parent / "tieseek"
FILES = sorted(PACKAGE.rglob("*.py"))

STATEMENTS = (
    ast.FunctionDef, ast.ClassDef, ast.Return, ast.Assign, ast.AugAssign, ast.For, ast.While, ast.If,
    ast.Raise, ast.Try, ast.ImportFrom, ast.Expr, ast.Pass, ast.Break, ast.Continue,
)
EXPRESSIONS = (
    ast.BoolOp, ast.BinOp, ast.UnaryOp, ast.Lambda, ast.IfExp, ast.Dict, ast.Set, ast.ListComp, ast.Compare,
    ast.Call, ast.FormattedValue, ast.JoinedStr, ast.Constant, ast.Attribute, ast.Subscript, ast.Name,
    ast.List, ast.Tuple, ast.Slice,
)
TOP = (ast.FunctionDef, ast.ClassDef, ast.Assign, ast.ImportFrom)

OWN_NAMES = (
    "len range enumerate zip min max sum abs sorted reversed int str bool list tuple dict set frozenset "
    "isinstance ord repr any all divmod Exception ValueError TypeError KeyError IndexError LookupError "
    "ZeroDivisionError ArithmeticError OverflowError RuntimeError NotImplementedError AttributeError StopIteration"
).split()
OWN_METHODS = (
    "append clear copy count endswith extend find get index insert isalnum isalpha isdigit islower isspace "
    "isupper items join keys ljust lower lstrip partition pop remove replace reverse rfind rjust rpartition "
    "rsplit rstrip setdefault split splitlines startswith strip update upper values zfill bit_length"
).split()
TWO_UNDERSCORES = ("__init__", "__eq__", "__repr__", "__str__", "__len__")
WORDS_OUT = (
    r"\b(type|typing|typing_extensions|enum|Enum|IntEnum|StrEnum|Flag|IntFlag|Generic|Protocol|ABC|ABCMeta"
    r"|namedtuple|NamedTuple|TypedDict|TYPE_CHECKING|abstractmethod)\b|dataclass|overload|contextmanager"
)
# Of Python's own errors, those that may be taken round any call.
FREE_ERRORS = ("KeyError", "ZeroDivisionError", "StopIteration")
# What is walked on the spot, and the calls that walk what is handed to them first.
WALKED = "zip enumerate reversed range items keys values".split()
WALKERS = "list tuple dict sorted sum any all enumerate zip min max join".split()
# The calls and methods by which a list or dict of a file's top may be read.
READERS = "len list tuple dict sorted sum min max any all enumerate zip reversed".split()
READING = "get index count keys values items copy".split()
# Names of Python's own methods that a value of an object may bear.
VALUES_LIKE_METHODS = "count index title find get join lower upper split strip copy add".split()
# The keywords that calls of Python's own may have.
KEYWORDS = {
    "sorted": ("key", "reverse"), "min": ("key", "default"), "max": ("key", "default"), "sum": ("start",),
    "enumerate": ("start",), "zip": ("strict",),
}
CHANGING = "append clear extend insert pop remove reverse setdefault update".split()
NAMES_OUT = "register mro elements open input version_info with_traceback add_note format format_map".split()


def nodes(path):
    return list(ast.walk(ast.parse(path.read_text())))


def defined(path):
    """The names that a file's top defines itself."""
    found = []
    for part in ast.parse(path.read_text()).body:
        if isinstance(part, (ast.FunctionDef, ast.ClassDef)):
            found.append(part.name)
        if isinstance(part, ast.Assign):
            found.append(part.targets[0].id)
    return found


def drawn(path):
    """The names that a file draws from others, with the file of each."""
    return [(part.module, alias.name) for part in nodes(path) if isinstance(part, ast.ImportFrom)
            for alias in part.names]


def module_path(module):
    return PACKAGE.parent / (module.replace(".", "/") + ".py")


def called_name(node):
    """The name of the function or method that a node calls, or None."""
    if not isinstance(node, ast.Call):
        return None
    return node.func.attr if isinstance(node.func, ast.Attribute) else getattr(node.func, "id", None)


def uses(path):
    """All nodes of a file, each with the node that it stands in."""
    return [(node, around) for around in nodes(path) for node in ast.iter_child_nodes(around)]


def is_walked(node, around):
    if isinstance(around, (ast.For, ast.comprehension)):
        return around.iter is node
    return called_name(around) in WALKERS and around.args[0] is node


def walked_names(loop):
    """What a loop walks, as texts: a name, or what stands in an enumerate, a zip, a reversed or by an items."""
    told = [loop.iter]
    if isinstance(loop.iter, ast.Call):
        of = loop.iter.func.value if isinstance(loop.iter.func, ast.Attribute) else None
        told = [of] if of is not None else loop.iter.args if called_name(loop.iter) in WALKED else []
    return [ast.unparse(one) for one in told]


def changed_in(loop):
    """What is changed in a loop, as texts: what a changing method is called of, or a part of is assigned."""
    found = []
    for node in [inner for part in loop.body for inner in ast.walk(part)]:
        if isinstance(node, ast.Call) and isinstance(node.func, ast.Attribute) and node.func.attr in CHANGING:
            found.append(ast.unparse(node.func.value))
        if isinstance(node, ast.Subscript) and isinstance(node.ctx, ast.Store):
            found.append(ast.unparse(node.value))
    return found


def is_read(node, around):
    """Whether a list or dict of a file's top is only read where it stands."""
    if isinstance(around, ast.Subscript):
        return around.value is node and isinstance(around.ctx, ast.Load)
    if isinstance(around, ast.Attribute):
        return around.attr in READING
    return isinstance(around, (ast.Compare, ast.For, ast.comprehension)) or called_name(around) in READERS


def is_plain(node, within):
    """Whether a value of a file's top is plain: one, or a list, tuple or dict of such ones and of functions."""
    if isinstance(node, ast.Constant):
        return True
    if isinstance(node, ast.Name):
        return within
    if isinstance(node, ast.Dict):
        return not within and all(is_plain(part, True) for part in node.keys + node.values)
    if isinstance(node, ast.List) and within:
        return False
    if isinstance(node, (ast.List, ast.Tuple)):
        return all(is_plain(part, True) for part in node.elts)
    return isinstance(node, ast.UnaryOp) and isinstance(node.operand, ast.Constant)


class Language(unittest.TestCase):
    def each(self, *sorts):
        """The nodes of these sorts in all files, each with the place where it stands."""
        return [(f"{path.name}:{getattr(node, 'lineno', 0)}", node) for path in FILES for node in nodes(path)
                if isinstance(node, sorts)]

    def test_files(self):
        self.assertIn(PACKAGE / "__init__.py", FILES)
        for path in PACKAGE.rglob("*"):
            if "__pycache__" not in path.parts:
                self.assertRegex(path.name, r"\A(__init__|__main__|[a-z][a-z0-9_]*)\.py\Z")
                self.assertNotIn(path.stem, dir(builtins))

    def test_sizes_and_signs(self):
        for path in FILES:
            with self.subTest(path.name):
                text = path.read_bytes().decode("utf-8")
                self.assertRegex(text, r"\A[ -~\n]*\Z")
                self.assertLessEqual(len(text.splitlines()), 400)
                self.assertLessEqual(max(len(line) for line in text.splitlines()), 120)
                self.assertNotRegex(text, WORDS_OUT)

    def test_functions(self):
        for place, node in self.each(ast.FunctionDef):
            with self.subTest(place):
                self.assertLessEqual(node.end_lineno - node.lineno + 1, 40)
                self.assertEqual(node.decorator_list, [])
                self.assertIsNone(node.args.vararg or node.args.kwarg)
                self.assertEqual(node.args.kwonlyargs + node.args.posonlyargs, [])
                for value in node.args.defaults:
                    self.assertIsInstance(value, ast.Constant)

    def test_classes(self):
        for place, node in self.each(ast.ClassDef):
            with self.subTest(place):
                self.assertLessEqual(len(node.bases), 1)
                self.assertEqual(node.decorator_list + node.keywords, [])
                for part in node.body:
                    self.assertIsInstance(part, (ast.FunctionDef, ast.Pass))

    def test_statements(self):
        for place, node in self.each(ast.stmt):
            with self.subTest(place):
                self.assertIsInstance(node, STATEMENTS)
                if isinstance(node, ast.Assign):
                    self.assertEqual(len(node.targets), 1)
                if isinstance(node, (ast.For, ast.While)):
                    self.assertEqual(node.orelse, [])
                if isinstance(node, ast.Try):
                    self.assertEqual(node.finalbody, [])

    def test_expressions(self):
        for place, node in self.each(ast.expr):
            with self.subTest(place):
                self.assertIsInstance(node, EXPRESSIONS)
                if isinstance(node, ast.ListComp):
                    self.assertEqual(len(node.generators), 1)
                    self.assertLessEqual(len(node.generators[0].ifs), 1)
                if isinstance(node, ast.Constant):
                    self.assertIn(node.value.__class__, (int, str, bool, type(None)))
                if isinstance(node, ast.Compare):
                    for sign, value in zip(node.ops, node.comparators):
                        if isinstance(sign, (ast.Is, ast.IsNot)):
                            self.assertIsInstance(value, ast.Constant)
                            self.assertIn(value.value, (None, True, False))
                if isinstance(node, ast.FormattedValue):
                    self.assertIsInstance(node.value, ast.Name)
                    self.assertIsNone(node.format_spec)

    def test_reckoning(self):
        for place, node in self.each(ast.BinOp):
            with self.subTest(place):
                self.assertNotIsInstance(node.op, (ast.Div, ast.MatMult))
                if isinstance(node.op, ast.Pow):
                    self.assertIsInstance(node.right, ast.Constant)
                    self.assertIn(node.right.value, range(65))

    def test_top(self):
        for path in FILES:
            top = ast.parse(path.read_text()).body
            with self.subTest(path.name):
                self.assertIsInstance(top[0], ast.Expr)
                for part in top[1:]:
                    self.assertIsInstance(part, TOP)
                bound = defined(path) + [name for module, name in drawn(path)]
                self.assertEqual(len(bound), len(set(bound)))

    def test_imports(self):
        for path in FILES:
            for module, name in drawn(path):
                with self.subTest(file=path.name, name=name):
                    self.assertTrue(module.startswith("tieseek."))
                    self.assertIn(name, defined(module_path(module)))
            for node, around in uses(path):
                if isinstance(node, ast.ImportFrom):
                    with self.subTest(file=path.name, line=node.lineno):
                        self.assertEqual(node.level, 0)
                        self.assertIsInstance(around, ast.Module)

    def test_no_ring_of_imports(self):
        ahead = {path: {module_path(module) for module, name in drawn(path)} for path in FILES}
        while ahead:
            free = [path for path in ahead if not ahead[path] & set(ahead)]
            self.assertNotEqual(free, [], "files that draw from one another")
            for path in free:
                ahead.pop(path)

    def test_names(self):
        for place, node in self.each(ast.AST):
            for name in self.names_in(node):
                with self.subTest(place=place, name=name):
                    self.assertNotIn(name, NAMES_OUT)
                    if name not in TWO_UNDERSCORES:
                        self.assertRegex(name, r"\A[A-Za-z][A-Za-z0-9_]*\Z")

    def names_in(self, node):
        if isinstance(node, (ast.FunctionDef, ast.ClassDef)):
            return [node.name]
        if isinstance(node, ast.Name):
            return [node.id]
        if isinstance(node, ast.arg):
            return [node.arg]
        if isinstance(node, ast.Attribute):
            return [node.attr]
        return []

    def test_names_of_pythons_own(self):
        for place, node in self.each(ast.Name, ast.arg):
            with self.subTest(place):
                if isinstance(node, ast.arg):
                    self.assertNotIn(node.arg, dir(builtins))
                elif node.id in dir(builtins):
                    self.assertIn(node.id, OWN_NAMES)
                    self.assertIsInstance(node.ctx, ast.Load)

    def test_locals_are_not_called_like_imports_or_classes(self):
        for path in FILES:
            classes = [node.name for node in nodes(path) if isinstance(node, ast.ClassDef)]
            taken = classes + [name for module, name in drawn(path)]
            for node in nodes(path):
                with self.subTest(file=path.name, line=getattr(node, "lineno", 0)):
                    if isinstance(node, ast.Name) and isinstance(node.ctx, ast.Store):
                        self.assertNotIn(node.id, taken)
                    if isinstance(node, ast.arg):
                        self.assertNotIn(node.arg, taken)

    def test_methods(self):
        methods = [part.name for place, node in self.each(ast.ClassDef) for part in node.body
                   if isinstance(part, ast.FunctionDef)]
        stored = [node.attr for place, node in self.each(ast.Attribute) if isinstance(node.ctx, ast.Store)]
        self.assertEqual(set(methods) & set(stored), set())
        for place, node in self.each(ast.Call):
            with self.subTest(place):
                if isinstance(node.func, ast.Attribute):
                    self.assertIn(node.func.attr, OWN_METHODS + methods)

    def test_values_of_objects(self):
        taken = [name for sort in (str, int, list, tuple, dict, set, bytes) for name in dir(sort)]
        for place, node in self.each(ast.Attribute):
            if isinstance(node.ctx, ast.Store):
                with self.subTest(place):
                    self.assertTrue(node.attr in VALUES_LIKE_METHODS or node.attr not in taken)

    def test_top_is_plain_and_only_read(self):
        for path in FILES:
            kept = []
            for part in ast.parse(path.read_text()).body:
                if isinstance(part, ast.Assign):
                    with self.subTest(file=path.name, line=part.lineno):
                        self.assertTrue(is_plain(part.value, False))
                    if isinstance(part.value, (ast.List, ast.Dict)):
                        kept.append(part.targets[0].id)
            for node, around in uses(path):
                if isinstance(node, ast.Name) and isinstance(node.ctx, ast.Load) and node.id in kept:
                    with self.subTest(file=path.name, line=node.lineno):
                        self.assertTrue(is_read(node, around))

    def test_errors_taken_and_raised(self):
        own = defined(PACKAGE / "errors.py")
        for place, node in self.each(ast.ExceptHandler):
            with self.subTest(place):
                taken = node.type.elts if isinstance(node.type, ast.Tuple) else [node.type]
                for one in taken:
                    self.assertIn(one.id, own + list(FREE_ERRORS))
        for place, node in self.each(ast.Raise):
            with self.subTest(place):
                self.assertIn(called_name(node.exc), own)
                self.assertEqual(node.exc.keywords, [])

    def test_asked_for_a_kind(self):
        kinds = "int str bool list tuple dict".split() + [node.name for place, node in self.each(ast.ClassDef)]
        for place, node in self.each(ast.Call):
            if called_name(node) == "isinstance":
                with self.subTest(place):
                    asked = node.args[1].elts if isinstance(node.args[1], ast.Tuple) else [node.args[1]]
                    for one in asked:
                        self.assertIn(one.id, kinds)

    def test_walked_at_once(self):
        for path in FILES:
            for node, around in uses(path):
                if called_name(node) in WALKED:
                    with self.subTest(file=path.name, line=node.lineno):
                        self.assertTrue(is_walked(node, around))

    def test_python_own_calls_are_called(self):
        for path in FILES:
            for node, around in uses(path):
                own = isinstance(node, ast.Name) and node.id in OWN_NAMES and not node.id[0].isupper()
                if own or (isinstance(node, ast.Attribute) and node.attr in OWN_METHODS):
                    with self.subTest(file=path.name, line=node.lineno):
                        self.assertIsInstance(around, (ast.Call, ast.keyword, ast.Tuple))

    def test_sets_are_not_kept(self):
        for path in FILES:
            for node, around in uses(path):
                if isinstance(node, ast.Set) or called_name(node) in ("set", "frozenset"):
                    with self.subTest(file=path.name, line=node.lineno):
                        beside = isinstance(around, (ast.Compare, ast.BinOp))
                        self.assertTrue(beside or called_name(around) in ("sorted", "len"))

    def test_what_a_loop_walks_is_not_changed_in_it(self):
        for place, node in self.each(ast.For):
            with self.subTest(place):
                self.assertEqual(set(walked_names(node)) & set(changed_in(node)), set())

    def test_keywords(self):
        own = [name for path in FILES for name in defined(path)]
        for place, node in self.each(ast.Call):
            with self.subTest(place):
                if called_name(node) not in own:
                    for one in node.keywords:
                        self.assertIn(one.arg, KEYWORDS.get(called_name(node), ()))

    def test_no_annotations(self):
        for place, node in self.each(ast.FunctionDef, ast.arg):
            with self.subTest(place):
                self.assertIsNone(node.returns if isinstance(node, ast.FunctionDef) else node.annotation)

    def test_a_class_is_not_handed_on(self):
        classes = [node.name for place, node in self.each(ast.ClassDef)]
        for path in FILES:
            for node, around in uses(path):
                if isinstance(node, ast.Name) and node.id in classes:
                    with self.subTest(file=path.name, line=node.lineno):
                        called = isinstance(around, ast.Call) and around.func is node
                        asked = called_name(around) == "isinstance"
                        self.assertTrue(called or asked or isinstance(around, (ast.ClassDef, ast.ExceptHandler)))

    def test_first_methods_give_back_nothing(self):
        for place, node in self.each(ast.FunctionDef):
            if node.name == "__init__":
                with self.subTest(place):
                    self.assertEqual([part for part in ast.walk(node) if isinstance(part, ast.Return)], [])

    def test_texts(self):
        for path in FILES:
            for text in re.findall(r"\\.", path.read_text()):
                self.assertIn(text, ("\\n", "\\t", "\\\\", "\\'", '\\"'))
        for place, node in self.each(ast.Constant):
            with self.subTest(place):
                self.assertNotIn("%", str(node.value))


if __name__ == "__main__":
    unittest.main()

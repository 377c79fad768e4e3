"""The rules of the language that can be read off the package's files, line by line or word by word."""

import ast
import builtins
import pathlib
import re
import unittest

PACKAGE = pathlib.Path(__file__).resolve().parent.parent / "kinturns"
STATEMENTS = (ast.Assign, ast.AugAssign, ast.If, ast.While, ast.For, ast.Return, ast.Break, ast.Continue,
              ast.Pass, ast.Raise, ast.Try, ast.Expr, ast.FunctionDef, ast.ClassDef, ast.ImportFrom)
OUT = (ast.Div, ast.SetComp, ast.DictComp, ast.GeneratorExp, ast.NamedExpr, ast.Starred, ast.Yield,
       ast.YieldFrom, ast.Await)
BUILT_IN = set("""len range enumerate zip min max sum abs sorted reversed int str bool list tuple dict set
    frozenset isinstance ord repr any all divmod Exception ValueError TypeError KeyError IndexError
    LookupError ZeroDivisionError ArithmeticError OverflowError RuntimeError NotImplementedError
    AttributeError StopIteration""".split())
METHODS = set("""append clear copy count endswith extend find get index insert isalnum isalpha isdigit
    islower isspace isupper items join keys ljust lower lstrip partition pop remove replace reverse rfind
    rjust rpartition rsplit rstrip setdefault split splitlines startswith strip update upper values zfill
    bit_length""".split())
WORDS_OUT = re.compile(r"\b(type|typing|typing_extensions|enum|Enum|IntEnum|StrEnum|Flag|IntFlag|Generic|"
                       r"Protocol|ABC|ABCMeta|namedtuple|NamedTuple|TypedDict|TYPE_CHECKING|abstractmethod)\b"
                       r"|dataclass|overload|contextmanager")


def sources():
    return {path.name: path.read_text(encoding="utf-8") for path in sorted(PACKAGE.glob("*.py"))}


def nodes():
    return [(name, node) for name, text in sources().items() for node in ast.walk(ast.parse(text))]


def functions_by_file():
    return [(name, node) for name, node in nodes() if isinstance(node, ast.FunctionDef)]


def bound_in(function):
    """The parameters and locals of a function."""
    own = {node.arg for node in ast.walk(function) if isinstance(node, ast.arg)}
    own |= {node.id for node in ast.walk(function) if isinstance(node, ast.Name) and isinstance(node.ctx, ast.Store)}
    return own


def imports_of(text):
    """Pairs of the file drawn from and the name drawn, of one file."""
    rows = [node for node in ast.walk(ast.parse(text)) if isinstance(node, ast.ImportFrom)]
    return [(row.module.split(".")[-1] + ".py", alias.name) for row in rows for alias in row.names]


def bound_at_top(text):
    """The names that a file itself binds at its top, each as often as it does."""
    names = []
    for node in ast.parse(text).body:
        if isinstance(node, (ast.FunctionDef, ast.ClassDef)):
            names.append(node.name)
        if isinstance(node, ast.Assign):
            names.append(node.targets[0].id)
    return names


def own_names():
    """Every name that a file of the package binds, and every method and value of its classes."""
    own = set()
    for _, node in nodes():
        if isinstance(node, (ast.FunctionDef, ast.ClassDef)):
            own.add(node.name)
        if isinstance(node, ast.arg):
            own.add(node.arg)
        if isinstance(node, ast.ExceptHandler) and node.name:
            own.add(node.name)
        if isinstance(node, (ast.Name, ast.Attribute)) and isinstance(node.ctx, ast.Store):
            own.add(node.id if isinstance(node, ast.Name) else node.attr)
    return own


class LanguageTest(unittest.TestCase):

    def test_the_folder_holds_plain_files_alone(self):
        names = [path.name for path in PACKAGE.iterdir() if path.name != "__pycache__"]
        self.assertIn("__init__.py", names)
        for name in names:
            self.assertRegex(name, r"\A(__init__|[a-z][a-z0-9_]*)\.py\Z")

    def test_signs_and_sizes(self):
        for name, text in sources().items():
            self.assertRegex(text, r"\A[\n -~]*\Z", name)
            lines = text.split("\n")
            self.assertLessEqual(len(lines), 400, name)
            self.assertLessEqual(max(len(line) for line in lines), 120, name)
            self.assertIsNone(WORDS_OUT.search(text), name)

    def test_functions_are_short_and_plain(self):
        for name, node in nodes():
            if isinstance(node, ast.FunctionDef):
                said = (name, node.name)
                self.assertLessEqual(node.end_lineno - node.lineno + 1, 40, said)
                self.assertEqual(node.decorator_list, [], said)
                self.assertFalse(node.args.vararg or node.args.kwarg or node.args.kwonlyargs, said)

    def test_statements_and_expressions(self):
        for name, node in nodes():
            said = (name, ast.dump(node)[:80])
            self.assertNotIsInstance(node, OUT, said)
            if isinstance(node, ast.stmt):
                self.assertIsInstance(node, STATEMENTS, said)
            if isinstance(node, ast.Expr):
                # The one text by itself is the docstring that opens a file.
                self.assertTrue(isinstance(node.value, ast.Call) or node.lineno == 1, said)
            if isinstance(node, ast.Assign):
                self.assertEqual(len(node.targets), 1, said)
            if isinstance(node, (ast.While, ast.For)):
                self.assertEqual(node.orelse, [], said)
            if isinstance(node, ast.Constant):
                self.assertNotIsInstance(node.value, (float, complex, bytes), said)
                self.assertNotIn("%", str(node.value), said)

    def test_imports_are_the_packages_own(self):
        for name, node in nodes():
            if isinstance(node, ast.ImportFrom):
                self.assertEqual(node.level, 0, name)
                self.assertRegex(node.module, r"\Akinturns\.[a-z]+\Z", name)
                self.assertNotIn("*", [alias.name for alias in node.names], name)

    def test_imports_are_from_the_file_that_defines_the_name_and_in_no_ring(self):
        files = sources()
        drawn = {name: {source for source, _ in imports_of(text)} for name, text in files.items()}
        for name, text in files.items():
            for source, word in imports_of(text):
                self.assertIn(word, bound_at_top(files[source]), name)
            reached = drawn[name]
            for _ in files:
                reached = reached | {later for source in reached for later in drawn[source]}
            self.assertNotIn(name, reached)

    def test_each_name_is_bound_once_at_the_top(self):
        for name, text in sources().items():
            names = bound_at_top(text) + [word for _, word in imports_of(text)]
            self.assertEqual(len(names), len(set(names)), name)

    def test_no_local_is_called_like_an_import_or_a_class_of_its_file_or_like_pythons_own(self):
        files = sources()
        for name, function in functions_by_file():
            classes = {node.name for node in ast.parse(files[name]).body if isinstance(node, ast.ClassDef)}
            taken = classes | {word for _, word in imports_of(files[name])} | set(dir(builtins))
            self.assertEqual(bound_in(function) & taken, set(), (name, function.name))

    def test_no_name_is_a_method_and_a_value(self):
        methods = {node.name for _, kind in nodes() if isinstance(kind, ast.ClassDef)
                   for node in kind.body if isinstance(node, ast.FunctionDef)}
        held = {node.attr for _, node in nodes()
                if isinstance(node, ast.Attribute) and isinstance(node.ctx, ast.Store)}
        self.assertEqual(methods & held, set())
        own = {word for kind in (str, int, list, dict, set, bytes, tuple) for word in dir(kind)}
        self.assertEqual((methods | held) & own, {"__init__"})

    def test_f_strings_comparisons_and_comprehensions(self):
        for name, node in nodes():
            said = (name, ast.dump(node)[:80])
            if isinstance(node, ast.FormattedValue):
                self.assertIsInstance(node.value, ast.Name, said)
                self.assertIn(node.conversion, (-1, ord("r")), said)
                self.assertIsNone(node.format_spec, said)
            if isinstance(node, ast.Compare):
                for sign, other in zip(node.ops, node.comparators):
                    if isinstance(sign, (ast.Is, ast.IsNot)):
                        self.assertIn(ast.dump(other), [ast.dump(ast.Constant(None))], said)
            if isinstance(node, ast.ListComp):
                self.assertEqual(len(node.generators), 1, said)
                self.assertLessEqual(len(node.generators[0].ifs), 1, said)

    def test_errors_are_the_packages_own(self):
        own = set(bound_at_top(sources()["errors.py"]))
        for name, node in nodes():
            if isinstance(node, ast.ExceptHandler):
                self.assertIn(node.type.id, own, name)
            if isinstance(node, ast.Raise):
                self.assertIn(node.exc.func.id, own, name)
            if isinstance(node, ast.Try):
                self.assertEqual(node.finalbody, [], name)

    def test_names(self):
        own = own_names()
        self.assertEqual(own & BUILT_IN, set())
        for name, node in nodes():
            if isinstance(node, ast.Name):
                self.assertIn(node.id, own | BUILT_IN, name)
            if isinstance(node, ast.Attribute):
                self.assertIn(node.attr, own | METHODS, name)
        for word in own - {"__init__"}:
            self.assertRegex(word, r"\A[A-Za-z][A-Za-z0-9_]*\Z")


if __name__ == "__main__":
    unittest.main()

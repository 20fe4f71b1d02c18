"""The form of the package: those rules of LANGUAGE.md that a look at the files can tell."""

import ast
import builtins
import pathlib
import re
import unittest

ROOT = pathlib.Path(__file__).resolve().parent.parent
PACKAGE = ROOT / "countveil"
FILES = {path.stem: path.read_text() for path in sorted(PACKAGE.glob("*.py"))}
TREES = {name: ast.parse(text) for name, text in FILES.items()}

BUILTINS = set(
    "len range enumerate zip min max sum abs sorted reversed int str bool list tuple dict set frozenset isinstance ord "
    "repr any all divmod iter next super property staticmethod classmethod Exception ValueError TypeError KeyError "
    "IndexError LookupError ZeroDivisionError RuntimeError NotImplementedError StopIteration NotImplemented".split()
)
METHODS = set(
    "append clear copy count endswith extend find get index insert isalnum isalpha isdigit islower isspace isupper "
    "items join keys ljust lower lstrip partition pop remove replace reverse rfind rjust rpartition rsplit rstrip "
    "setdefault split splitlines startswith strip update upper values zfill bit_length removeprefix add discard "
    "__init__".split()
)
SPECIAL = set(
    "__init__ __eq__ __repr__ __str__ __len__ __enter__ __exit__ __call__ __iter__ __lt__ __le__ __gt__ __ge__ __ne__ "
    "__add__ __sub__ __mul__ __neg__ __bool__ __contains__ __getitem__ __setitem__ __all__ __version__".split()
)
BARRED_WORDS = re.compile(
    r"\b(type|typing|typing_extensions|enum|Enum|IntEnum|StrEnum|Flag|IntFlag|Generic|Protocol|ABC|ABCMeta|namedtuple|"
    r"NamedTuple|TypedDict|TYPE_CHECKING|abstractmethod)\b|dataclass|overload|contextmanager"
)
TAKING_GENERATORS = ["list", "tuple", "dict", "sorted", "sum", "min", "max", "any", "all", "join"]
ITERATED = ["zip", "enumerate", "reversed", "range"]
BARRED_NAMES = set("register mro elements open input law version_info with_traceback add_note args".split())
BARRED_NODES = (
    ast.Import, ast.Global, ast.AsyncFunctionDef, ast.AsyncFor, ast.AsyncWith, ast.Await, ast.Div, ast.MatMult,
    ast.AnnAssign,
)


def nodes():
    """Each node of each file, with the file's name."""
    for name, tree in TREES.items():
        for node in ast.walk(tree):
            yield name, node


def bound_names(tree):
    """Every name that a file binds anywhere: functions, classes, parameters, variables, imports."""
    for node in ast.walk(tree):
        if isinstance(node, (ast.FunctionDef, ast.ClassDef)):
            yield node.name
        elif isinstance(node, ast.arg):
            yield node.arg
        elif isinstance(node, ast.Name) and isinstance(node.ctx, ast.Store):
            yield node.id
        elif isinstance(node, ast.alias):
            yield node.asname or node.name
        elif isinstance(node, ast.ExceptHandler) and node.name:
            yield node.name


def top_names(tree):
    """The names that stand at module level, but for imports."""
    for node in tree.body:
        if isinstance(node, (ast.FunctionDef, ast.ClassDef)):
            yield node.name
        elif isinstance(node, ast.Assign):
            yield node.targets[0].id


def imports_of(tree):
    return [node for node in ast.walk(tree) if isinstance(node, ast.ImportFrom)]


class Files(unittest.TestCase):
    def test_only_plain_files(self):
        for path in PACKAGE.iterdir():
            if path.name != "__pycache__":
                self.assertRegex(path.name, r"^[a-z0-9_]+\.py$")

    def test_signs_and_sizes(self):
        for name, text in FILES.items():
            self.assertRegex(text, r"^[ -~\n]*$", name)
            self.assertLess(len(text.splitlines()), 400, name)
            for line in text.splitlines():
                self.assertLessEqual(len(line), 120, (name, line))

    def test_functions_are_short(self):
        for name, node in nodes():
            if isinstance(node, ast.FunctionDef):
                self.assertLessEqual(node.end_lineno - node.lineno + 1, 40, (name, node.name))

    def test_barred_words(self):
        for name, text in FILES.items():
            self.assertIsNone(BARRED_WORDS.search(text), name)


class Imports(unittest.TestCase):
    def test_from_the_file_that_defines_the_name(self):
        for name, tree in TREES.items():
            for node in imports_of(tree):
                self.assertIn(node, tree.body, name)
                package, _, module = node.module.partition(".")
                self.assertEqual((package, node.level), ("countveil", 0), name)
                for alias in node.names:
                    self.assertIn(alias.name, list(top_names(TREES[module])), (name, alias.name))

    def test_no_two_files_import_from_each_other(self):
        ahead = {name: {node.module.partition(".")[2] for node in imports_of(tree)} for name, tree in TREES.items()}
        while ahead:
            free = [name for name in ahead if not ahead[name] & set(ahead)]
            self.assertTrue(free, ahead)
            for name in free:
                del ahead[name]


class Names(unittest.TestCase):
    def test_plain_names(self):
        for name, tree in TREES.items():
            for bound in bound_names(tree):
                if bound not in SPECIAL:
                    self.assertRegex(bound, r"^[A-Za-z][A-Za-z0-9_]*$", name)
                    self.assertFalse(hasattr(builtins, bound), (name, bound))
                    self.assertNotIn(bound, BARRED_NAMES, name)

    def test_one_binding_at_module_level(self):
        for name, tree in TREES.items():
            imported = [alias.asname or alias.name for node in imports_of(tree) for alias in node.names]
            bound = [*top_names(tree), *imported]
            self.assertEqual(len(bound), len(set(bound)), name)

    def test_no_local_name_is_that_of_a_class_or_an_import(self):
        for name, tree in TREES.items():
            barred = {alias.asname or alias.name for node in imports_of(tree) for alias in node.names}
            barred |= {node.name for node in tree.body if isinstance(node, ast.ClassDef)}
            for node in ast.walk(tree):
                if isinstance(node, ast.arg):
                    self.assertNotIn(node.arg, barred, name)
                if isinstance(node, ast.Name) and isinstance(node.ctx, ast.Store):
                    self.assertNotIn(node.id, barred, name)

    def test_each_helper_is_written_once(self):
        written = [top for tree in TREES.values() for top in top_names(tree)]
        self.assertEqual(len(written), len(set(written)))


class Classes(unittest.TestCase):
    def test_no_name_is_a_method_and_an_attribute(self):
        methods, attributes, read = set(), set(), set()
        for name, node in nodes():
            if isinstance(node, ast.ClassDef):
                methods |= {inner.name for inner in node.body if isinstance(inner, ast.FunctionDef)}
            if isinstance(node, ast.Attribute):
                (attributes if isinstance(node.ctx, ast.Store) else read).add(node.attr)
        self.assertFalse(methods & attributes)
        self.assertFalse(read - methods - attributes - METHODS)

    def test_no_method_twice(self):
        for name, node in nodes():
            if isinstance(node, ast.ClassDef):
                methods = [inner.name for inner in node.body if isinstance(inner, ast.FunctionDef)]
                self.assertEqual(len(methods), len(set(methods)), node.name)

    def test_len_is_plain(self):
        for name, node in nodes():
            if isinstance(node, ast.FunctionDef) and node.name == "__len__":
                self.assertEqual(ast.unparse(node.body[-1])[:11], "return len(")


class Expressions(unittest.TestCase):
    def test_barred_statements_and_signs(self):
        for name, node in nodes():
            self.assertNotIsInstance(node, BARRED_NODES, (name, getattr(node, "lineno", None)))

    def test_literals(self):
        for name, node in nodes():
            if isinstance(node, ast.Constant):
                self.assertNotIsInstance(node.value, (float, complex), name)
                if isinstance(node.value, str):
                    self.assertNotIn("%", node.value, name)

    def test_is_only_with_none_and_truths(self):
        for name, node in nodes():
            if isinstance(node, ast.Compare) and any(isinstance(sign, (ast.Is, ast.IsNot)) for sign in node.ops):
                right = node.comparators[-1]
                self.assertTrue(isinstance(right, ast.Constant) and right.value in (None, True, False), name)

    def test_builtins(self):
        for name, tree in TREES.items():
            own = set(bound_names(tree))
            for node in ast.walk(tree):
                if isinstance(node, ast.Name) and node.id not in own:
                    self.assertIn(node.id, BUILTINS, (name, node.lineno))

    def test_generators_stand_in_calls_that_take_them(self):
        for name, node in nodes():
            inner = [child for child in ast.iter_child_nodes(node) if isinstance(child, ast.GeneratorExp)]
            if inner:
                self.assertIsInstance(node, ast.Call, (name, node.lineno))
                called = node.func.id if isinstance(node.func, ast.Name) else node.func.attr
                self.assertIn(called, TAKING_GENERATORS, (name, node.lineno))

    def test_what_is_iterated_is_not_stored(self):
        for name, node in nodes():
            for child in ast.iter_child_nodes(node):
                if isinstance(child, ast.Call) and isinstance(child.func, ast.Name) and child.func.id in ITERATED:
                    fits = isinstance(node, (ast.For, ast.comprehension))
                    fits = fits or isinstance(node, ast.Call) and node.func.id in TAKING_GENERATORS + ITERATED
                    self.assertTrue(fits, (name, child.lineno))

    def test_sets_stand_where_they_may(self):
        for name, node in nodes():
            for child in ast.iter_child_nodes(node):
                if isinstance(child, (ast.SetComp, ast.Set)):
                    self.assertIsInstance(node, (ast.Compare, ast.Call), (name, child.lineno))
                if isinstance(child, ast.Call) and isinstance(child.func, ast.Name) and child.func.id == "set":
                    self.assertIsInstance(node, (ast.Compare, ast.Call), (name, child.lineno))

    def test_defaults_are_plain(self):
        for name, node in nodes():
            if isinstance(node, ast.arguments):
                for default in [*node.defaults, *node.kw_defaults]:
                    self.assertIsInstance(default, (ast.Constant, ast.Name, ast.Tuple, type(None)), name)

    def test_methods(self):
        own = {node.name for name, node in nodes() if isinstance(node, ast.FunctionDef)}
        for name, node in nodes():
            if isinstance(node, ast.Call) and isinstance(node.func, ast.Attribute):
                self.assertIn(node.func.attr, METHODS | own, (name, node.lineno))

    def test_raised_errors_are_made_on_the_spot(self):
        for name, node in nodes():
            if isinstance(node, ast.Raise) and node.exc is not None:
                self.assertTrue(isinstance(node.exc, ast.Call) and isinstance(node.exc.func, ast.Name), name)


if __name__ == "__main__":
    unittest.main()

"""That the files of the package keep to the rules of the language that can be seen without running them."""

import ast
import builtins
import pathlib
import re

from tests.samples import Case

PACKAGE = pathlib.Path(__file__).resolve().parent.parent / "tornpictures"
BUILTINS = set(
    "len range enumerate zip min max sum abs sorted reversed int str bool bytes list tuple dict set frozenset isinstance "
    "ord repr any all divmod Exception ValueError TypeError KeyError IndexError LookupError ZeroDivisionError "
    "ArithmeticError OverflowError RuntimeError NotImplementedError AttributeError StopIteration NotImplemented super".split()
)
BARRED = (
    r"\b(type|typing|typing_extensions|enum|Enum|IntEnum|StrEnum|Flag|IntFlag|Generic|Protocol|ABC|ABCMeta|namedtuple"
    r"|NamedTuple|TypedDict|TYPE_CHECKING|abstractmethod)\b|dataclass|overload|contextmanager"
)
NEVER = (
    ast.Global, ast.AsyncFunctionDef, ast.AsyncFor, ast.AsyncWith, ast.Await, ast.Div, ast.MatMult, ast.Import,
    ast.GeneratorExp,
)
AT_MODULE_LEVEL = (ast.Expr, ast.ImportFrom, ast.FunctionDef, ast.ClassDef, ast.Assign)
OWN_DOUBLE_UNDERSCORES = ("__init__", "__eq__", "__len__")
# L17, and of L26 what no attribute may be called.
NO_NAMES = set(
    "register mro elements open input version_info with_traceback add_note attrgetter breakpoint builtins compile copyright "
    "credits delattr dir eval exec exit gc getattr globals hasattr help id importlib license locals methodcaller os quit "
    "setattr type vars sys __name__".split()
)
NO_ATTRIBUTES = set(
    "items keys values pop update append clear extend insert remove reverse setdefault sort args encode decode hex fromhex "
    "format format_map".split()
)
BUILTIN_METHODS = set(
    "append clear copy count endswith extend find get index insert isalnum isalpha isdigit islower isspace isupper items join "
    "keys ljust lower lstrip partition pop remove replace reverse rfind rjust rpartition rsplit rstrip setdefault split "
    "splitlines startswith strip update upper values zfill bit_length".split()
)


def files():
    return sorted(PACKAGE.rglob("*.py"))


def nodes(path):
    return list(ast.walk(ast.parse(path.read_text())))


def each(sort):
    """Every node of a sort in every file, with a text that tells where it is."""
    return [
        (node, f"{path.name}, line {getattr(node, 'lineno', 0)}")
        for path in files() for node in nodes(path) if isinstance(node, sort)
    ]


class Rules(Case):
    def test_the_folder_has_python_files_alone(self):
        found = [path for path in PACKAGE.rglob("*") if "__pycache__" not in path.parts]
        self.assertIn(PACKAGE / "__init__.py", found)
        for path in found:
            self.assertRegex(path.name, r"\A(__init__|[a-z][a-z0-9_]*)\.py\Z")

    def test_signs_and_sizes(self):
        for path in files():
            text = path.read_text()
            with self.subTest(path.name):
                self.assertRegex(text, r"\A[ -~\n]*\Z")
                self.assertLessEqual(len(text.splitlines()), 400)
                self.assertLessEqual(max(map(len, text.splitlines())), 120)
                self.assertIsNone(re.search(BARRED, text))
        for node, where in each(ast.FunctionDef):
            self.assertLessEqual(node.end_lineno - node.lineno + 1, 40, where)

    def test_imports_are_of_the_package_by_full_names(self):
        for node, where in each(ast.ImportFrom):
            self.assertEqual(node.level, 0, where)
            self.assertTrue(node.module.startswith("tornpictures."), where)
            self.assertTrue((PACKAGE / (node.module.removeprefix("tornpictures.") + ".py")).exists(), where)
            self.assertNotIn("*", [alias.name for alias in node.names], where)

    def test_module_level(self):
        for path in files():
            for node in ast.parse(path.read_text()).body:
                self.assertIsInstance(node, AT_MODULE_LEVEL, f"{path.name}, line {node.lineno}")

    def test_what_is_never_used(self):
        for path in files():
            for node in nodes(path):
                self.assertNotIsInstance(node, NEVER, path.name)
        for node, where in each(ast.Constant):
            self.assertNotIsInstance(node.value, (float, complex), where)
            if isinstance(node.value, str):
                self.assertNotIn("%", node.value, where)

    def test_builtins(self):
        for node, where in each(ast.Name):
            if hasattr(builtins, node.id):
                self.assertIn(node.id, BUILTINS, where)
                self.assertIsInstance(node.ctx, ast.Load, where)
        for node, where in each(ast.arg):
            self.assertFalse(hasattr(builtins, node.arg), where)

    def test_plain_names(self):
        for node, where in each((ast.Name, ast.arg, ast.FunctionDef, ast.ClassDef, ast.Attribute)):
            name = next(getattr(node, field) for field in ("id", "arg", "name", "attr") if hasattr(node, field))
            if name not in OWN_DOUBLE_UNDERSCORES:
                self.assertRegex(name, r"\A[A-Za-z][A-Za-z0-9_]*\Z", where)

    def test_is_stands_beside_none_and_truths_alone(self):
        for node, where in each(ast.Compare):
            for sign, side in zip(node.ops, node.comparators):
                if isinstance(sign, (ast.Is, ast.IsNot)):
                    self.assertIsInstance(side, ast.Constant, where)

    def test_no_power_of_what_is_not_written_out(self):
        for node, where in each(ast.BinOp):
            if isinstance(node.op, ast.Pow):
                self.assertIsInstance(node.right, ast.Constant, where)

    def test_no_local_name_is_that_of_an_import_or_a_class(self):
        for path in files():
            tree = ast.parse(path.read_text())
            taken = {node.name for node in tree.body if isinstance(node, ast.ClassDef)}
            taken |= {alias.name for node in tree.body if isinstance(node, ast.ImportFrom) for alias in node.names}
            for node in ast.walk(tree):
                if isinstance(node, ast.arg):
                    self.assertNotIn(node.arg, taken, path.name)
                if isinstance(node, ast.Name) and isinstance(node.ctx, ast.Store):
                    self.assertNotIn(node.id, taken, path.name)

    def test_an_import_names_the_file_that_defines_the_name(self):
        for node, where in each(ast.ImportFrom):
            body = ast.parse((PACKAGE / (node.module.removeprefix("tornpictures.") + ".py")).read_text()).body
            defined = {part.name for part in body if isinstance(part, (ast.FunctionDef, ast.ClassDef))}
            defined |= {target.id for part in body if isinstance(part, ast.Assign) for target in part.targets}
            for alias in node.names:
                self.assertIn(alias.name, defined, where)

    def test_no_files_import_each_other(self):
        needed = {
            path.stem: {node.module.removeprefix("tornpictures.") for node in nodes(path) if isinstance(node, ast.ImportFrom)}
            for path in files()
        }
        while needed:
            free = [stem for stem in needed if not needed[stem] & set(needed)]
            self.assertNotEqual(free, [], f"these import each other: {sorted(needed)}")
            for stem in free:
                del needed[stem]

    def test_errors_are_raised_by_their_names_on_the_spot(self):
        for node, where in each(ast.Raise):
            if node.exc is not None:
                self.assertIsInstance(node.exc, ast.Call, where)
                self.assertIsInstance(node.exc.func, ast.Name, where)

    def test_names_that_are_not_used(self):
        for node, where in each((ast.Name, ast.arg, ast.FunctionDef, ast.ClassDef)):
            name = next(getattr(node, field) for field in ("id", "arg", "name") if hasattr(node, field))
            self.assertNotIn(name, NO_NAMES, where)

    def test_no_name_is_a_method_here_and_an_attribute_there(self):
        methods = {part.name for node, where in each(ast.ClassDef) for part in node.body if isinstance(part, ast.FunctionDef)}
        stored = {node.attr for node, where in each(ast.Attribute) if isinstance(node.ctx, ast.Store)}
        self.assertEqual(methods & stored, set())
        self.assertEqual(stored & NO_ATTRIBUTES, set())
        for node, where in each(ast.Attribute):
            self.assertIn(node.attr, methods | stored | BUILTIN_METHODS, where)

    def test_attributes_are_assigned_through_a_local_name(self):
        for node, where in each(ast.Attribute):
            if isinstance(node.ctx, ast.Store):
                self.assertIsInstance(node.value, ast.Name, where)
                self.assertRegex(node.value.id, r"\A[a-z]", where)

    def test_no_bytes_are_made(self):
        # Where a package makes bytes, what stands ahead of a rest must be seen to be a number (L7).
        for node, where in each((ast.Name, ast.Constant)):
            self.assertNotEqual(getattr(node, "id", None), "bytes", where)
            self.assertNotIsInstance(getattr(node, "value", None), bytes, where)

    def test_handlers_name_own_errors_alone(self):
        # Of Python's own errors none is caught, so that none of the narrow rules for this is touched.
        errors = {part.name for part in ast.parse((PACKAGE / "errors.py").read_text()).body if isinstance(part, ast.ClassDef)}
        for node, where in each(ast.ExceptHandler):
            caught = node.type.elts if isinstance(node.type, ast.Tuple) else [node.type]
            for part in caught:
                self.assertIn(part.id, errors, where)

    def test_values_at_module_level_are_plain_and_not_nested(self):
        for path in files():
            for node in ast.parse(path.read_text()).body:
                if isinstance(node, ast.Assign):
                    where = f"{path.name}, line {node.lineno}"
                    self.assertEqual(len(node.targets), 1, where)
                    inner = [part for part in ast.walk(node.value) if isinstance(part, (ast.List, ast.Dict))]
                    self.assertLessEqual(len(inner), 1, where)
                    self.assertFalse([part for part in ast.walk(node.value) if isinstance(part, ast.Call)], where)

    def test_a_length_is_told_by_len(self):
        for node, where in each(ast.FunctionDef):
            if node.name == "__len__":
                self.assertEqual(len(node.body), 1, where)
                self.assertEqual(node.body[0].value.func.id, "len", where)

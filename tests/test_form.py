"""The rules of LANGUAGE.md that a look at the syntax can tell, for each file of the package."""

import ast
import builtins
import io
import re
import tokenize
import unittest
import warnings
from pathlib import Path

PACKAGE = Path(__file__).resolve().parent.parent / "hoursmeant"
FILES = sorted(path for path in PACKAGE.rglob("*") if path.is_file() and path.suffix != ".pyc")

BUILTINS = set(
    "len range enumerate zip min max sum abs sorted reversed int str bool list tuple dict set isinstance"
    " ord repr any all divmod super property classmethod Exception ValueError TypeError KeyError NotImplemented".split()
)
METHODS = set(
    "append clear copy count endswith extend find get index insert isalnum isalpha isdigit islower isspace"
    " isupper items join keys ljust lower lstrip partition pop remove replace reverse rfind rjust rpartition"
    " rsplit rstrip setdefault split splitlines startswith strip update upper values zfill bit_length".split()
)
DOUBLE = set("__init__ __eq__ __len__ __iter__ __getitem__ __contains__ __or__".split())
BARRED_NODES = (
    ast.Global, ast.AsyncFunctionDef, ast.AsyncFor, ast.AsyncWith, ast.Await, ast.Div, ast.MatMult, ast.Set,
    ast.SetComp, ast.GeneratorExp, ast.Import, ast.TryStar, ast.Lambda,
)
BARRED_WORDS = (
    "type typing typing_extensions enum Enum IntEnum StrEnum Flag IntFlag Generic Protocol ABC ABCMeta namedtuple"
    " NamedTuple TypedDict TYPE_CHECKING abstractmethod _wall _WallAttr"
).split()
BARRED_NAMES = set(
    "register mro elements open input law version_info with_traceback add_note attrgetter breakpoint builtins"
    " compile copyright credits delattr dir eval exec exit gc getattr globals hasattr help id importlib license"
    " locals methodcaller os quit setattr type vars sys __name__".split()
)


# The functions that the interface of DOC.md lists, and the methods of its classes.
INTERFACE = {
    "zones": "is_zone is_zones is_table offset_at reading_at moments_of find_moment",
    "spacing": "is_looks can_hold crowded early_table offsets_left",
    "programs": "is_program is_world kinds run",
    "cases": "cases worlds looks_of",
    "questions": "is_wish keeps breaking differences witness refusals",
    "mending": "rules_that_keep least_spacing alike parting",
    "words": "write_program read_program write_wish read_wish",
}
CLASSES = {
    ("sightings", "Sightings"):
        "__init__ zone looks see drop undo options table begin finish twin __len__ __getitem__ __contains__ __or__ __eq__"
        " __iter__",
    ("sightings", "SureSightings"): "see",
    ("console", "Console"): "__init__ execute",
}
DECORATORS = {"zone": "property", "looks": "property", "_made": "classmethod"}
# L23: what may stand around the call of a generator, beside a loop, a comprehension and yield from.
ITERATING = set("list tuple dict sorted sum min max any all enumerate zip".split())


def tree_of(path):
    return ast.parse(path.read_text("utf-8"))


def docstrings(tree):
    """The nodes of the docstrings of a file."""
    with_docs = (ast.Module, ast.ClassDef, ast.FunctionDef)
    bodies = [node.body for node in ast.walk(tree) if isinstance(node, with_docs)]
    return [body[0].value for body in bodies if body and isinstance(body[0], ast.Expr)]


def bound_names(tree):
    """The names that a file binds anywhere."""
    for node in ast.walk(tree):
        if isinstance(node, ast.Name) and not isinstance(node.ctx, ast.Load):
            yield node.id
        elif isinstance(node, (ast.FunctionDef, ast.ClassDef)):
            yield node.name
        elif isinstance(node, ast.arg):
            yield node.arg
        elif isinstance(node, ast.ExceptHandler) and node.name:
            yield node.name
        elif isinstance(node, ast.alias):
            yield node.asname or node.name


def generators():
    """The names of the functions of the package that yield."""
    for path in FILES:
        for node in ast.walk(tree_of(path)):
            inner = ast.walk(node) if isinstance(node, ast.FunctionDef) else ()
            if any(isinstance(one, (ast.Yield, ast.YieldFrom)) for one in inner):
                yield node.name


def iterated_at_once(tree):
    """The nodes that stand where a file iterates on the spot."""
    for node in ast.walk(tree):
        if isinstance(node, (ast.For, ast.comprehension)):
            yield node.iter
        elif isinstance(node, ast.YieldFrom):
            yield node.value
        elif isinstance(node, ast.Call) and isinstance(node.func, ast.Name) and node.func.id in ITERATING:
            yield from node.args


def each_file(check):
    """A test that makes the check of each file with its path, its text and its tree."""
    def test(self):
        for path in FILES:
            with self.subTest(path.name):
                check(self, path, path.read_text("utf-8"), tree_of(path))
    return test


class TestForm(unittest.TestCase):
    def test_files(self):
        self.assertIn(PACKAGE / "__init__.py", FILES)
        for path in FILES:
            self.assertRegex(path.name, r"\A([a-z][a-z0-9_]*|__init__|__main__)\.py\Z")

    @each_file
    def test_size_and_characters(self, path, text, tree):
        lines = text.split("\n")
        self.assertLessEqual(len(lines) - 1, 399)
        self.assertLessEqual(max(map(len, lines)), 120)
        self.assertRegex(text, r"\A[\n -~]*\Z")
        for node in ast.walk(tree):
            if isinstance(node, ast.FunctionDef):
                self.assertLessEqual(node.end_lineno - node.lineno + 1, 40, node.name)

    @each_file
    def test_no_warnings(self, path, text, tree):
        with warnings.catch_warnings():
            warnings.simplefilter("error")
            compile(text, str(path), "exec")

    def test_imports(self):
        imported = {}
        for path in FILES:
            imported[path.stem] = []
            tree = tree_of(path)
            for node in ast.walk(tree):
                if isinstance(node, ast.ImportFrom):
                    self.assertIn(node, tree.body)
                    self.assertRegex(node.module, r"\Ahoursmeant\.[a-z_]+\Z")
                    source = PACKAGE / (node.module.split(".")[1] + ".py")
                    defined = [*bound_names(ast.Module(
                        [one for one in tree_of(source).body if not isinstance(one, ast.ImportFrom)], [],
                    ))]
                    for alias in node.names:
                        self.assertIn(alias.name, defined)
                        self.assertIsNone(alias.asname)
                    imported[path.stem].append(source.stem)
        while imported:
            free = [name for name, sources in imported.items() if not set(sources) & set(imported)]
            self.assertTrue(free, "files import from each other")
            imported = {name: sources for name, sources in imported.items() if name not in free}

    def test_interface_stands_in_its_files(self):
        for stem, names in INTERFACE.items():
            body = tree_of(PACKAGE / (stem + ".py")).body
            defined = [node.name for node in body if isinstance(node, ast.FunctionDef)]
            self.assertLessEqual({*names.split()}, {*defined})
        for (stem, name), methods in CLASSES.items():
            body = tree_of(PACKAGE / (stem + ".py")).body
            (found,) = [node for node in body if isinstance(node, ast.ClassDef) and node.name == name]
            defined = [node.name for node in found.body if isinstance(node, ast.FunctionDef)]
            self.assertEqual(len(defined), len(set(defined)))
            self.assertLessEqual({*methods.split()}, {*defined})

    @each_file
    def test_double_underscore_methods(self, path, text, tree):
        for node in ast.walk(tree):
            if not isinstance(node, ast.ClassDef):
                continue
            for method in node.body:
                if not isinstance(method, ast.FunctionDef) or not method.name.startswith("__"):
                    continue
                self.assertIn(method.name, DOUBLE)
                if method.name == "__init__":
                    continue
                # L5 and L28: nothing of an object is assigned, but of those that the method creates.
                created = [
                    one.targets[0].id for one in method.body if isinstance(one, ast.Assign)
                    and isinstance(one.targets[0], ast.Name) and isinstance(one.value, ast.Call)
                    and one.value.func.id in ("Sightings",)
                ]
                for one in ast.walk(method):
                    self.assertNotIsInstance(one, (ast.AugAssign, ast.Delete))
                    if isinstance(one, (ast.Attribute, ast.Subscript)) and isinstance(one.ctx, ast.Store):
                        self.assertIn(one.value.id, created)

    @each_file
    def test_module_level(self, path, text, tree):
        allowed = (ast.ImportFrom, ast.FunctionDef, ast.ClassDef, ast.Assign)
        docs = docstrings(tree)
        names = [node.name for node in tree.body if isinstance(node, (ast.FunctionDef, ast.ClassDef))]
        for node in tree.body:
            self.assertTrue(isinstance(node, allowed) or node.value in docs)
            if isinstance(node, ast.Assign):
                self.assertEqual(len(node.targets), 1)
                names.append(node.targets[0].id)
                ast.literal_eval(node.value)
            if isinstance(node, ast.ImportFrom):
                names += [alias.name for alias in node.names]
        self.assertEqual(len(names), len(set(names)))

    @each_file
    def test_syntax(self, path, text, tree):
        methods = [method for one in tree.body if isinstance(one, ast.ClassDef) for method in one.body]
        for node in ast.walk(tree):
            self.assertNotIsInstance(node, BARRED_NODES)
            if isinstance(node, ast.Constant):
                self.assertNotIsInstance(node.value, (float, complex, bytes))
            if isinstance(node, ast.Compare) and isinstance(node.ops[0], (ast.Is, ast.IsNot)):
                self.assertIn(getattr(node.comparators[0], "value", "no"), (None, True, False))
            if isinstance(node, ast.FunctionDef):
                decorators = [one.id for one in node.decorator_list]
                self.assertEqual(decorators, [DECORATORS[node.name]] if node.name in DECORATORS and node in methods else [])

    @each_file
    def test_names(self, path, text, tree):
        defined = {name for path in FILES for name in bound_names(tree_of(path))}
        for name in bound_names(tree):
            self.assertNotIn(name, BARRED_NAMES)
            self.assertTrue(name in DOUBLE or not name.startswith("__"), name)
        local = {*bound_names(tree)} - DOUBLE
        self.assertFalse(local & set(dir(builtins)))
        for node in ast.walk(tree):
            if isinstance(node, ast.Name) and isinstance(node.ctx, ast.Load):
                self.assertTrue(node.id in local or node.id in BUILTINS, node.id)
                self.assertNotEqual(node.id, "_")
            if isinstance(node, ast.Call) and isinstance(node.func, ast.Attribute):
                method = node.func.attr
                self.assertTrue(method in METHODS or method in defined or method == "__init__", method)
            if isinstance(node, ast.Attribute):
                self.assertNotIn(node.attr, BARRED_NAMES)

    @each_file
    def test_words_and_strings(self, path, text, tree):
        docs = docstrings(tree)
        for node in ast.walk(tree):
            if isinstance(node, ast.Constant) and isinstance(node.value, str):
                self.assertNotIn("%", node.value)
                if node not in docs:
                    self.assertFalse(node.value.endswith(("._", ".__")))
        doc_lines = {line for node in docs for line in range(node.lineno, node.end_lineno + 1)}
        for token in tokenize.generate_tokens(io.StringIO(text).readline):
            if token.type != tokenize.COMMENT and token.start[0] not in doc_lines:
                words = re.findall(r"\w+", token.string)
                self.assertFalse(set(words) & set(BARRED_WORDS), token.string)
        self.assertNotIn("_wall", text)
        for string in re.findall(r"\\.", text):
            self.assertIn(string, ("\\n", "\\t", "\\\\", "\\\"", "\\'"))

    @each_file
    def test_generators_are_iterated_at_once(self, path, text, tree):
        names = [*generators()]
        self.assertEqual(len(names), len(set(names)))
        self.assertFalse(set(names) & METHODS)
        called = [node.func for node in iterated_at_once(tree) if isinstance(node, ast.Call)]
        for node in ast.walk(tree):
            if isinstance(node, ast.Name) and node.id in names:
                self.assertIn(node, called, node.id)
            if isinstance(node, (ast.Yield, ast.YieldFrom)):
                lines = [one.value for one in ast.walk(tree) if isinstance(one, ast.Expr)]
                self.assertIn(node, lines)
            if isinstance(node, (ast.Try, ast.With)):
                self.assertFalse(any(isinstance(one, (ast.Yield, ast.YieldFrom)) for one in ast.walk(node)))

    @each_file
    def test_lists_and_dicts_at_module_level_are_not_passed_on(self, path, text, tree):
        kept = {
            node.targets[0].id for one in FILES for node in tree_of(one).body
            if isinstance(node, ast.Assign) and isinstance(node.value, (ast.List, ast.Dict))
        }
        allowed = []
        for node in ast.walk(tree):
            if isinstance(node, (ast.Subscript, ast.Attribute)):
                allowed.append(node.value)
            elif isinstance(node, ast.Compare):
                allowed += node.comparators
            elif isinstance(node, (ast.For, ast.comprehension)):
                allowed.append(node.iter)
        for node in ast.walk(tree):
            if isinstance(node, ast.Name) and node.id in kept and isinstance(node.ctx, ast.Load):
                self.assertIn(node, allowed, node.id)

    @each_file
    def test_generator_free_calls(self, path, text, tree):
        # L7 and L5: beside classes with operators, sorted, any and the like take lists.
        for node in ast.walk(tree):
            self.assertNotIsInstance(node, ast.NamedExpr)
            if isinstance(node, ast.Call) and isinstance(node.func, ast.Name) and node.func.id == "reversed":
                inner = node.args[0]
                self.assertIn(getattr(getattr(inner, "func", None), "id", None), ("list", "sorted", "range"))

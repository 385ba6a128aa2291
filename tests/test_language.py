"""Rules of the language that can be read off the package's files, and promise 1's "no clock, chance or files"."""

import ast
import builtins
import pathlib
import re
import unittest

import leavings

FOLDER = pathlib.Path(leavings.__file__).parent

BUILTINS = set(
    "len range enumerate zip min max sum abs sorted reversed int str bool bytes list tuple dict set frozenset"
    " isinstance ord repr any all divmod Exception ValueError TypeError KeyError IndexError LookupError"
    " ZeroDivisionError ArithmeticError OverflowError RuntimeError NotImplementedError AttributeError"
    " StopIteration NotImplemented property staticmethod classmethod super object float".split()
)

BARRED_WORDS = set(
    "type typing typing_extensions enum Enum IntEnum StrEnum Flag IntFlag Generic Protocol ABC ABCMeta"
    " namedtuple NamedTuple TypedDict TYPE_CHECKING abstractmethod".split()
)

BARRED_NODES = (
    ast.Global, ast.AsyncFunctionDef, ast.AsyncFor, ast.AsyncWith, ast.Await, ast.Import, ast.Div, ast.MatMult,
)

DOUBLE = re.compile(r"__[a-z]+__")


def sources():
    return [(path.name, path.read_text(encoding="utf-8")) for path in sorted(FOLDER.glob("*.py"))]


def nodes():
    """Pairs of a file's name and a node of it, for all files."""
    return [(name, node) for name, text in sources() for node in ast.walk(ast.parse(text))]


def bound_names(node):
    if isinstance(node, (ast.FunctionDef, ast.ClassDef)):
        return [node.name]
    if isinstance(node, ast.arg):
        return [node.arg]
    if isinstance(node, ast.Name) and not isinstance(node.ctx, ast.Load):
        return [node.id]
    return []


class LanguageTest(unittest.TestCase):
    def test_folder(self):
        for path in FOLDER.iterdir():
            if path.name != "__pycache__":
                self.assertRegex(path.name, r"\A([a-z][a-z0-9_]*|__init__|__main__)\.py\Z")
        self.assertTrue((FOLDER / "__init__.py").is_file())

    def test_characters_and_sizes(self):
        for name, text in sources():
            lines = text.split("\n")
            self.assertLessEqual(len(lines), 400, name)
            for line in lines:
                self.assertLessEqual(len(line), 120, (name, line))
                self.assertRegex(line, r"\A[ -~]*\Z", name)
        for name, node in nodes():
            if isinstance(node, ast.FunctionDef):
                self.assertLessEqual(node.end_lineno - node.lineno + 1, 40, (name, node.name))

    def test_barred_words(self):
        for name, text in sources():
            self.assertEqual(BARRED_WORDS & set(re.findall(r"\w+", text)), set(), name)
            self.assertNotRegex(text, "dataclass|overload|contextmanager", name)

    def test_module_level(self):
        for name, text in sources():
            for at, node in enumerate(ast.parse(text).body):
                docstring = at == 0 and isinstance(node, ast.Expr) and isinstance(node.value, ast.Constant)
                plain = isinstance(node, (ast.ImportFrom, ast.FunctionDef, ast.ClassDef, ast.Assign))
                self.assertTrue(docstring or plain, (name, node.lineno))

    def test_imports_are_the_packages_own(self):
        for name, node in nodes():
            if isinstance(node, ast.ImportFrom):
                self.assertEqual(node.level, 0, name)
                self.assertRegex(node.module, r"\A(leavings\.[a-z_]+|__future__)\Z", name)
                self.assertNotIn("*", [alias.name for alias in node.names], name)

    def test_imports_name_the_file_that_defines(self):
        defined = {}
        for name, text in sources():
            defined["leavings." + name[:-3]] = {
                bound for node in ast.parse(text).body for part in [node, *getattr(node, "targets", [])]
                for bound in bound_names(part)
            }
        for name, node in nodes():
            if isinstance(node, ast.ImportFrom) and node.module != "__future__":
                for alias in node.names:
                    self.assertIn(alias.name, defined[node.module], name)

    def test_no_two_files_import_from_each_other(self):
        imported = {"leavings." + name[:-3]: set() for name, _ in sources()}
        for name, node in nodes():
            if isinstance(node, ast.ImportFrom) and node.module in imported:
                imported["leavings." + name[:-3]].add(node.module)
        while imported:
            # Files that import from none of the rest are taken away, until none is there.
            free = [name for name in imported if not imported[name] & set(imported)]
            self.assertTrue(free, imported)
            for name in free:
                del imported[name]

    def test_no_local_has_the_name_of_an_import_or_a_class(self):
        for name, text in sources():
            tree = ast.parse(text)
            taken = {alias.name for node in tree.body if isinstance(node, ast.ImportFrom) for alias in node.names}
            taken |= {node.name for node in tree.body if isinstance(node, ast.ClassDef)}
            for node in ast.walk(tree):
                if isinstance(node, (ast.arg, ast.Name)):
                    self.assertEqual(taken & set(bound_names(node)), set(), (name, node.lineno))

    def test_only_allowed_builtins(self):
        known = set(dir(builtins))
        for name, node in nodes():
            if isinstance(node, ast.Name) and node.id in known:
                self.assertIn(node.id, BUILTINS, (name, node.lineno))

    def test_plain_names(self):
        for name, node in nodes():
            for bound in bound_names(node):
                plain = not bound.startswith("_") and bound not in dir(builtins)
                double = isinstance(node, ast.FunctionDef) and DOUBLE.fullmatch(bound)
                self.assertTrue(plain or double, (name, bound))

    def test_barred_statements_and_values(self):
        for name, node in nodes():
            self.assertNotIsInstance(node, BARRED_NODES, name)
            if isinstance(node, ast.Constant):
                self.assertNotIsInstance(node.value, (float, complex), name)
                if isinstance(node.value, str):
                    self.assertNotIn("%", node.value, name)

    def test_is_only_beside_none_and_truths(self):
        for name, node in nodes():
            if isinstance(node, ast.Compare):
                for sign, right in zip(node.ops, node.comparators):
                    if isinstance(sign, (ast.Is, ast.IsNot)):
                        self.assertIsInstance(right, ast.Constant, (name, node.lineno))

    def test_no_name_is_both_a_method_and_an_attribute(self):
        methods = set()
        attributes = set()
        for _, node in nodes():
            if isinstance(node, ast.ClassDef):
                methods |= {part.name for part in node.body if isinstance(part, ast.FunctionDef)}
            if isinstance(node, ast.Attribute) and isinstance(node.ctx, ast.Store):
                attributes.add(node.attr)
        self.assertEqual(methods & attributes, set())


if __name__ == "__main__":
    unittest.main()

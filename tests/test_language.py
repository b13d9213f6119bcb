"""Those rules of ../shared/LANGUAGE.md that a look at the files can tell."""

import ast
import builtins
import pathlib
import re
import unittest

PACKAGE = pathlib.Path(__file__).resolve().parent.parent / "whistleboard"

BUILTINS = set(
    "len range enumerate zip min max sum abs sorted reversed int str bool bytes list tuple dict set frozenset"
    " isinstance ord repr any all divmod iter next super property staticmethod classmethod"
    " Exception ValueError TypeError KeyError IndexError LookupError ZeroDivisionError ArithmeticError"
    " OverflowError RuntimeError NotImplementedError AttributeError StopIteration NotImplemented".split()
)
BARRED_WORDS = (
    "type typing typing_extensions enum Enum IntEnum StrEnum Flag IntFlag Generic Protocol ABC ABCMeta namedtuple"
    " NamedTuple TypedDict TYPE_CHECKING abstractmethod".split()
)
BARRED_NAMES = "register mro elements open input law version_info with_traceback add_note".split()
BARRED_NODES = (
    ast.Global, ast.AsyncFunctionDef, ast.Import, ast.Div, ast.Await, ast.AsyncFor, ast.AsyncWith,
)


def names_bound(tree):
    """Each name that the tree gives to a variable, a function, a class or a parameter."""
    bound = []
    for node in ast.walk(tree):
        if isinstance(node, ast.Name) and isinstance(node.ctx, ast.Store):
            bound.append(node.id)
        elif isinstance(node, (ast.FunctionDef, ast.ClassDef)):
            bound.append(node.name)
        elif isinstance(node, ast.arg):
            bound.append(node.arg)
    return bound


def each_file():
    """The text and the tree of each file of the package, with its name."""
    for path in sorted(PACKAGE.glob("*.py")):
        text = path.read_text(encoding="utf-8")
        yield path.name, text, ast.parse(text)


class LanguageTest(unittest.TestCase):

    def test_the_folder_holds_plainly_named_files_only(self):
        for path in PACKAGE.iterdir():
            if path.name != "__pycache__":
                self.assertRegex(path.name, r"^([a-z][a-z0-9_]*|__init__|__main__)\.py$")

    def test_size_and_signs(self):
        for file, text, tree in each_file():
            self.assertRegex(text, r"\A[ -~\n]*\Z", file)
            self.assertLessEqual(len(text.splitlines()), 399, file)
            self.assertLessEqual(max([len(line) for line in text.splitlines()]), 120, file)
            for node in ast.walk(tree):
                if isinstance(node, ast.FunctionDef):
                    self.assertLessEqual(node.end_lineno - node.lineno + 1, 40, node.name)

    def test_words(self):
        for file, text, tree in each_file():
            self.assertEqual([word for word in re.findall(r"\w+", text) if word in BARRED_WORDS], [], file)
            self.assertNotRegex(text, "dataclass|overload|contextmanager", file)

    def test_names(self):
        for file, text, tree in each_file():
            for name in names_bound(tree):
                self.assertNotIn(name, BARRED_NAMES, file)
                if not re.fullmatch("__[a-z]+__", name):
                    self.assertRegex(name, "^[A-Za-z][A-Za-z0-9_]*$", file)
                    self.assertFalse(hasattr(builtins, name), f"{file}: {name}")

    def test_imports(self):
        for file, text, tree in each_file():
            for node in ast.walk(tree):
                if isinstance(node, ast.ImportFrom):
                    self.assertRegex(node.module, r"^whistleboard\.[a-z]+$", file)
                    self.assertEqual(node.level, 0, file)
                    self.assertIn(node, tree.body, file)

    def test_nodes_and_builtins(self):
        for file, text, tree in each_file():
            for node in ast.walk(tree):
                self.assertNotIsInstance(node, BARRED_NODES, file)
                if isinstance(node, ast.Name) and hasattr(builtins, node.id):
                    self.assertIn(node.id, BUILTINS, file)
                if isinstance(node, ast.Constant):
                    self.assertIsInstance(node.value, (int, str, bytes, type(None)), file)
                    self.assertNotIn("%", str(node.value), file)
                if isinstance(node, ast.JoinedStr):
                    self.assertNotIn("%", ast.get_source_segment(text, node), file)

    def test_no_name_is_a_method_and_an_attribute(self):
        methods, attributes = set(), set()
        for file, text, tree in each_file():
            for node in ast.walk(tree):
                if isinstance(node, ast.ClassDef):
                    methods.update([part.name for part in node.body if isinstance(part, ast.FunctionDef)])
                if isinstance(node, ast.Attribute) and isinstance(node.ctx, ast.Store):
                    attributes.add(node.attr)
        self.assertEqual(methods & attributes, set())


if __name__ == "__main__":
    unittest.main()

"""Some rules of LANGUAGE.md that can be seen in the text of the package."""

import ast
import pathlib
import re
import unittest
import warnings

PACKAGE = pathlib.Path(__file__).resolve().parent.parent / "pupilpairs"
BARRED_WORDS = (
    "type typing typing_extensions enum Enum IntEnum StrEnum Flag IntFlag Generic Protocol ABC ABCMeta namedtuple "
    "NamedTuple TypedDict TYPE_CHECKING abstractmethod"
).split()
BUILTINS = (
    "len range enumerate zip min max sum abs sorted reversed int str bool list tuple dict set isinstance ord repr "
    "any all divmod iter next property ValueError KeyError IndexError LookupError ZeroDivisionError"
).split()
METHODS = (
    "append clear copy count endswith extend find get index insert isalnum isalpha isdigit islower isspace isupper "
    "items join keys ljust lower lstrip partition pop remove replace reverse rfind rjust rpartition rsplit rstrip "
    "setdefault split splitlines startswith strip update upper values zfill bit_length"
).split()
SPECIAL = "__init__ __eq__ __len__ __iter__ __mul__ __invert__".split()
BARRED_NAMES = (
    "register mro elements open input law version_info attrgetter breakpoint builtins compile copyright credits "
    "delattr dir eval exec exit gc getattr globals hasattr help id importlib license locals methodcaller os quit "
    "setattr super vars hash map filter"
).split()
LIMITED = (
    ast.Global, ast.AsyncFunctionDef, ast.Await, ast.JoinedStr, ast.SetComp, ast.Set, ast.With, ast.Yield,
)


CHANGING = "append clear extend insert pop remove reverse setdefault update".split()


def names_handed(value):
    """The names that stand in a call, the ones in the calls in it, too."""
    if not isinstance(value, ast.Call):
        return []
    if isinstance(value.func, ast.Name) and value.func.id in ("range", "abs", "len", "list", "sum", "min", "max"):
        return []
    return [node.id for node in ast.walk(value) if isinstance(node, ast.Name)]


def changed_in(rows):
    """The names, attributes and items that rows change, without those that they only bind anew."""
    told = set()
    for node in [node for row in rows for node in ast.walk(row)]:
        if isinstance(node, ast.AugAssign):
            told.add(ast.unparse(node.target))
        if isinstance(node, ast.Subscript) and not isinstance(node.ctx, ast.Load):
            told.add(ast.unparse(node.value))
        if isinstance(node, ast.Call) and isinstance(node.func, ast.Attribute) and node.func.attr in CHANGING:
            told.add(ast.unparse(node.func.value))
    return told


class LanguageTest(unittest.TestCase):
    def setUp(self):
        self.texts = {path.name: path.read_text() for path in sorted(PACKAGE.glob("*.py"))}
        self.trees = {name: ast.parse(text) for name, text in self.texts.items()}

    def nodes(self, kind):
        """All nodes of a kind, with the names of their files."""
        return [(name, node) for name, tree in self.trees.items() for node in ast.walk(tree) if isinstance(node, kind)]

    def test_files_and_characters(self):
        self.assertIn("__init__.py", self.texts)
        kept = [path.name for path in PACKAGE.iterdir() if path.name != "__pycache__"]
        self.assertEqual(sorted(kept), sorted(self.texts))
        for name, text in self.texts.items():
            self.assertRegex(name, r"^[a-z_]+\.py$")
            self.assertTrue(all(" " <= character <= "~" or character == "\n" for character in text), name)

    def test_python_warns_of_nothing(self):
        with warnings.catch_warnings():
            warnings.simplefilter("error")
            for name, text in self.texts.items():
                compile(text, name, "exec")

    def test_sizes(self):
        for name, text in self.texts.items():
            lines = text.splitlines()
            self.assertLessEqual(len(lines), 399, name)
            self.assertLessEqual(max(map(len, lines)), 120, name)
        for name, node in self.nodes(ast.FunctionDef):
            self.assertLessEqual(node.end_lineno - node.lineno + 1, 40, (name, node.name))

    def test_barred_words(self):
        for name, text in self.texts.items():
            words = set(re.findall(r"\w+", text))
            self.assertEqual(words & set(BARRED_WORDS), set(), name)
            self.assertNotRegex(text, "dataclass|overload|contextmanager")

    def test_imports(self):
        self.assertEqual(self.nodes(ast.Import), [])
        for name, node in self.nodes(ast.ImportFrom):
            self.assertEqual(node.level, 0, name)
            source = PACKAGE / (node.module.partition("pupilpairs.")[2] + ".py")
            defined = {one.name for one in ast.parse(source.read_text()).body if hasattr(one, "name")}
            for alias in node.names:
                self.assertIsNone(alias.asname, name)
                self.assertIn(alias.name, defined, name)

    def test_statements(self):
        self.assertEqual([(name, type(node)) for name, node in self.nodes(LIMITED)], [])

    def test_own_errors_alone_are_caught(self):
        own = {node.name for node in self.trees["errors.py"].body if isinstance(node, ast.ClassDef)}
        for name, node in self.nodes(ast.Try):
            self.assertEqual([node.orelse, node.finalbody], [[], []], name)
            for handler in node.handlers:
                self.assertIn(handler.type.id, own, name)

    def test_names(self):
        for name, tree in self.trees.items():
            imports = [node for node in ast.walk(tree) if isinstance(node, ast.ImportFrom)]
            imported = {alias.name for node in imports for alias in node.names}
            classes = {node.name for node in ast.walk(tree) if isinstance(node, ast.ClassDef)}
            for node in ast.walk(tree):
                bound = None
                if isinstance(node, ast.arg):
                    bound = node.arg
                elif isinstance(node, ast.Name) and isinstance(node.ctx, ast.Store):
                    bound = node.id
                if bound:
                    self.assertNotIn(bound, imported | classes | set(BUILTINS) | set(BARRED_NAMES), name)
                    self.assertFalse(bound.startswith("_"), (name, bound))

    def test_methods_and_attributes_have_names_of_their_own(self):
        methods, attributes = set(), set()
        for name, node in self.nodes(ast.ClassDef):
            for one in node.body:
                if isinstance(one, ast.FunctionDef):
                    self.assertTrue(one.name in SPECIAL or not one.name.startswith("_"), one.name)
                    if not one.decorator_list:
                        methods.add(one.name)
        for name, node in self.nodes(ast.Attribute):
            if isinstance(node.ctx, ast.Store):
                attributes.add(node.attr)
        self.assertEqual(methods & attributes, set())

    def test_calls_of_methods_and_builtins(self):
        own = {node.name for name, node in self.nodes((ast.FunctionDef, ast.ClassDef))}
        # What is taken out of a table of functions.
        taken = {ast.unparse(node.targets[0]) for name, node in self.nodes(ast.Assign)
                 if isinstance(node.value, ast.Subscript) and ast.unparse(node.value.value).isupper()}
        for name, node in self.nodes(ast.Call):
            self.assertEqual(node.keywords, [], name)
            if isinstance(node.func, ast.Name):
                self.assertIn(node.func.id, own | taken | set(BUILTINS), name)
            else:
                self.assertIn(node.func.attr, own | set(METHODS), name)

    def test_what_a_loop_walks_is_not_changed_in_it(self):
        # What a call returns may be what it was handed, so that counts as walked, too.
        for name, function in self.nodes(ast.FunctionDef):
            handed = {}
            for node in ast.walk(function):
                if isinstance(node, ast.Assign):
                    for target in node.targets:
                        handed.setdefault(ast.unparse(target), []).extend(names_handed(node.value))
            for loop in ast.walk(function):
                if isinstance(loop, ast.For):
                    walked = {ast.unparse(loop.iter), *names_handed(loop.iter), *handed.get(ast.unparse(loop.iter), [])}
                    self.assertEqual(walked & changed_in(loop.body), set(), (name, loop.lineno))

    def test_the_words_of_equality(self):
        for name, node in self.nodes(ast.FunctionDef):
            if node.name == "__eq__":
                told = ast.unparse(node.body[-1])
                self.assertRegex(told, r"^return isinstance\(other, \w+\)( and \(?self\.(\w+) == other\.\2\)?)+$", name)


if __name__ == "__main__":
    unittest.main()

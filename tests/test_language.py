"""What of LANGUAGE.md can be seen at a glance, for every file of the package."""

import ast
import builtins
import re
import unittest
from pathlib import Path

PACKAGE = Path(__file__).resolve().parent.parent / "powerrows"
FILES = sorted(path for path in PACKAGE.rglob("*") if path.is_file() and "__pycache__" not in path.parts)
# The interface, file by file (L16).
INTERFACE = {
    "errors.py": [
        "PowerError", "BadPrime", "BadRow", "BadCount", "BadRule", "BadPlaces", "BadTerms", "NoPart", "NoInside",
        "NoRoot",
    ],
    "rows.py": ["plus", "times", "parted"],
    "inside.py": ["put_in", "turned_out"],
    "roots.py": ["raised", "root"],
    "rules.py": ["opened", "far_place", "alike"],
    "finding.py": ["tapped"],
    "own.py": ["grown"],
    "answers.py": ["Answer", "Alike", "Unlike", "Ruled", "Barred"],
}
BUILTINS = set(
    "len range enumerate zip min max sum abs sorted reversed int str bool bytes list tuple dict set frozenset "
    "isinstance ord repr any all divmod iter next Exception ValueError TypeError KeyError IndexError LookupError "
    "ZeroDivisionError ArithmeticError OverflowError RuntimeError NotImplementedError AttributeError StopIteration "
    "NotImplemented super property staticmethod classmethod".split()
)
METHODS = set(
    "append clear copy count endswith extend find get index insert isalnum isalpha isdigit islower isspace isupper "
    "items join keys ljust lower lstrip partition pop remove replace reverse rfind rjust rpartition rsplit rstrip "
    "setdefault split splitlines startswith strip update upper values zfill bit_length sort add discard".split()
)
BARRED_WORDS = (
    r"\b(type|typing|typing_extensions|enum|Enum|IntEnum|StrEnum|Flag|IntFlag|Generic|Protocol|ABC|ABCMeta|namedtuple"
    r"|NamedTuple|TypedDict|TYPE_CHECKING|abstractmethod)\b|dataclass|overload|contextmanager"
)
BARRED_NAMES = set(
    "register mro elements open input law version_info with_traceback add_note attrgetter breakpoint builtins compile "
    "copyright credits delattr dir eval exec exit gc getattr globals hasattr help id importlib license locals "
    "methodcaller os quit setattr type vars sys".split()
)
BARRED_NODES = (
    ast.Global, ast.AsyncFunctionDef, ast.AsyncFor, ast.AsyncWith, ast.Await, ast.Import, ast.Div, ast.Set, ast.SetComp,
)
# What LANGUAGE.md allows with many rules, and the program does without.
DONE_WITHOUT = (
    ast.GeneratorExp, ast.Lambda, ast.Try, ast.With, ast.Yield, ast.YieldFrom, ast.Nonlocal, ast.Match, ast.Starred,
    ast.NamedExpr, ast.Delete, ast.Assert, ast.AnnAssign,
)
ITERATED_AT_ONCE = set("zip enumerate reversed range items keys values iter".split())


def read(path):
    return path.read_text(encoding="ascii")


def names_bound(tree):
    """Every name that the file gives a meaning to."""
    for node in ast.walk(tree):
        if isinstance(node, ast.Name) and isinstance(node.ctx, ast.Store):
            yield node.id
        elif isinstance(node, (ast.FunctionDef, ast.ClassDef)):
            yield node.name
        elif isinstance(node, ast.arg):
            yield node.arg
        elif isinstance(node, ast.alias):
            yield node.asname or node.name


def defined(tree):
    """What another file may import from the file."""
    names = [node.name for node in tree.body if isinstance(node, (ast.FunctionDef, ast.ClassDef))]
    return names + [node.targets[0].id for node in tree.body if isinstance(node, ast.Assign)]


def wrong_powers(tree):
    """The rows with a power whose exponent is not a literal from 0 to 64 (L27)."""
    rows = []
    for node in ast.walk(tree):
        if isinstance(node, (ast.BinOp, ast.AugAssign)) and isinstance(node.op, ast.Pow):
            exponent = node.right if isinstance(node, ast.BinOp) else node.value
            literal = isinstance(exponent, ast.Constant) and type(exponent.value) is int
            if not literal or not 0 <= exponent.value <= 64:
                rows.append(node.lineno)
    return rows


def imported(name):
    """The files of the package from which this one imports."""
    tree = ast.parse(read(PACKAGE / name))
    return [node.module.split(".")[1] + ".py" for node in tree.body if isinstance(node, ast.ImportFrom)]


def called(node):
    """The bare name of what is called, or None."""
    if not isinstance(node, ast.Call):
        return None
    return node.func.id if isinstance(node.func, ast.Name) else node.func.attr


class Language(unittest.TestCase):
    def test_the_folder_holds_nothing_but_files_of_the_program(self):
        self.assertTrue((PACKAGE / "__init__.py").is_file())
        self.assertLessEqual(len(FILES), 100)
        for path in FILES:
            self.assertRegex(path.name, r"^(__init__|[a-z][a-z0-9_]*)\.py$")

    def test_signs_and_sizes(self):
        for path in FILES:
            tree = ast.parse(read(path))
            with self.subTest(path.name):
                text = read(path)
                self.assertRegex(text, r"^[ -~\n]*$")
                self.assertLessEqual(len(text.splitlines()), 399)
                self.assertLessEqual(max([len(line) for line in text.splitlines()]), 120)
                self.assertIsNone(re.search(BARRED_WORDS, text))
                for node in ast.walk(tree):
                    if isinstance(node, ast.FunctionDef):
                        self.assertLessEqual(node.end_lineno - node.lineno + 1, 40, node.name)

    def test_imports(self):
        for path in FILES:
            tree = ast.parse(read(path))
            with self.subTest(path.name):
                for node in ast.walk(tree):
                    if isinstance(node, ast.ImportFrom):
                        self.assertIn(node, tree.body)
                        self.assertEqual(node.level, 0)
                        self.assertRegex(node.module, r"^powerrows\.[a-z_]+$")
                        source = ast.parse(read(PACKAGE / (node.module.split(".")[1] + ".py")))
                        for alias in node.names:
                            self.assertIn(alias.name, defined(source))

    def test_module_level(self):
        for path in FILES:
            tree = ast.parse(read(path))
            with self.subTest(path.name):
                names = []
                for place, node in enumerate(tree.body):
                    if place == 0 and isinstance(node, ast.Expr) and isinstance(node.value, ast.Constant):
                        continue
                    self.assertIsInstance(node, (ast.ImportFrom, ast.FunctionDef, ast.ClassDef, ast.Assign))
                    if isinstance(node, ast.ImportFrom):
                        names += [alias.name for alias in node.names]
                    elif isinstance(node, ast.Assign):
                        ast.literal_eval(node.value)
                        names.append(node.targets[0].id)
                    else:
                        names.append(node.name)
                self.assertEqual(len(names), len(set(names)))

    def test_names(self):
        for path in FILES:
            tree = ast.parse(read(path))
            with self.subTest(path.name):
                outer = [node.name for node in ast.walk(tree) if isinstance(node, ast.ClassDef)]
                outer += [alias.name for node in tree.body if isinstance(node, ast.ImportFrom) for alias in node.names]
                for name in names_bound(tree):
                    self.assertTrue(name[0] != "_" or re.match(r"^__[a-z]+__$", name), name)
                    self.assertNotIn(name, BARRED_NAMES)
                    self.assertNotIn(name, dir(builtins))
                for node in ast.walk(tree):
                    if isinstance(node, ast.Name) and isinstance(node.ctx, ast.Store) or isinstance(node, ast.arg):
                        self.assertNotIn(node.id if isinstance(node, ast.Name) else node.arg, outer)

    def test_statements_and_values(self):
        for path in FILES:
            tree = ast.parse(read(path))
            with self.subTest(path.name):
                for node in ast.walk(tree):
                    self.assertNotIsInstance(node, BARRED_NODES)
                    if isinstance(node, ast.Constant):
                        self.assertNotIsInstance(node.value, float)
                        if isinstance(node.value, str):
                            self.assertNotIn("%", node.value)

    def test_what_the_program_does_without(self):
        for path in FILES:
            tree = ast.parse(read(path))
            with self.subTest(path.name):
                for node in ast.walk(tree):
                    self.assertNotIsInstance(node, DONE_WITHOUT)
                    if isinstance(node, (ast.FunctionDef, ast.ClassDef)):
                        self.assertEqual(node.decorator_list, [])
                    if isinstance(node, ast.FunctionDef):
                        self.assertEqual(node.args.defaults + node.args.kwonlyargs + node.args.posonlyargs, [])
                        self.assertIsNone(node.args.vararg or node.args.kwarg)

    def test_what_is_iterated_at_once_is_not_stored(self):
        for path in FILES:
            tree = ast.parse(read(path))
            with self.subTest(path.name):
                for node in ast.walk(tree):
                    if isinstance(node, (ast.Assign, ast.Return)):
                        self.assertNotIn(called(node.value), ITERATED_AT_ONCE)

    def test_no_two_files_import_from_each_other(self):
        for path in FILES:
            reached, left = [], imported(path.name)
            while left:
                name = left.pop()
                if name not in reached:
                    reached.append(name)
                    left += imported(name)
            self.assertNotIn(path.name, reached)

    def test_methods_and_attributes(self):
        methods, stored, asked = set(), set(), set()
        for path in FILES:
            tree = ast.parse(read(path))
            for node in ast.walk(tree):
                if isinstance(node, ast.ClassDef):
                    names = [each.name for each in node.body if isinstance(each, ast.FunctionDef)]
                    self.assertEqual(len(names), len(set(names)))
                    methods |= set(names)
                elif isinstance(node, ast.Attribute):
                    (stored if isinstance(node.ctx, ast.Store) else asked).add(node.attr)
        self.assertEqual(methods & stored, set())
        self.assertLessEqual(asked, methods | stored | METHODS)
        for name in (methods | stored) - {"__init__"}:
            for kind in (int, str, bytes, list, tuple, dict, set):
                self.assertNotIn(name, dir(kind))

    def test_the_methods_of_the_interface_stand_in_their_classes(self):
        tree = ast.parse(read(PACKAGE / "answers.py"))
        bodies = {node.name: node.body for node in tree.body if isinstance(node, ast.ClassDef)}
        for name in ["Alike", "Unlike", "Ruled", "Barred"]:
            self.assertIn("shows", [node.name for node in bodies[name] if isinstance(node, ast.FunctionDef)])

    def test_powers(self):
        for path in FILES:
            with self.subTest(path.name):
                self.assertEqual(wrong_powers(ast.parse(read(path))), [])

    def test_which_powers_are_wrong(self):
        for power in ["a ** 0", "a ** 2", "2 ** 64", "a **= 3", "f(**more)", "(a + b) ** 3 % p", "a * b"]:
            self.assertEqual(wrong_powers(ast.parse(power)), [], power)
        wrong = ["a ** b", "2 ** n", "a ** (p - 2)", "a ** (p - 2) % p", "a ** -1", "a ** 65", "a ** True", "a ** 2.0"]
        wrong += ["a **= n", "a **= 65", "a **= -2", "a ** b ** 2", "a ** (1 + 1)", "[a ** b for a in c]", "f(a ** b)"]
        for power in wrong:
            self.assertEqual(wrong_powers(ast.parse(power)), [1], power)

    def test_calls(self):
        for path in FILES:
            tree = ast.parse(read(path))
            with self.subTest(path.name):
                own = set(names_bound(tree))
                for node in ast.walk(tree):
                    if isinstance(node, ast.Name) and isinstance(node.ctx, ast.Load):
                        self.assertIn(node.id, own | BUILTINS)
                    if isinstance(node, ast.Call) and isinstance(node.func, ast.Attribute):
                        self.assertIn(node.func.attr, own | METHODS)

    def test_the_interface_stands_in_its_files(self):
        for name, wanted in INTERFACE.items():
            tree = ast.parse(read(PACKAGE / name))
            told = [node.name for node in tree.body if isinstance(node, (ast.FunctionDef, ast.ClassDef))]
            for each in wanted:
                self.assertIn(each, told)


if __name__ == "__main__":
    unittest.main()

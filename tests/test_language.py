"""The small part of the language that the package keeps to, as far as it can be seen from the files."""

import ast
import pathlib
import re
import unittest

FOLDER = pathlib.Path(__file__).resolve().parent.parent / "holeyard"

NODES = """
    Module FunctionDef ClassDef arguments arg Lambda Return Assign AugAssign For While If Raise Try ExceptHandler
    ImportFrom alias Expr Pass Break Continue BoolOp And Or BinOp Add Sub Mult FloorDiv Mod Pow LShift RShift BitOr
    BitXor BitAnd UnaryOp Invert Not UAdd USub IfExp Dict List Tuple Set ListComp comprehension Compare Eq NotEq Lt LtE
    Gt GtE Is IsNot In NotIn Call keyword JoinedStr FormattedValue Constant Attribute Subscript Slice Name Load Store
""".split()

BUILTINS = """
    len range enumerate zip min max sum abs sorted reversed int str bool list tuple dict set isinstance ord repr any all
    divmod ValueError KeyError IndexError LookupError ZeroDivisionError StopIteration
""".split()

METHODS = """
    append clear copy count endswith extend find get index insert isalnum isalpha isdigit islower isspace isupper items
    join keys ljust lower lstrip partition pop remove replace reverse rfind rjust rpartition rsplit rstrip setdefault
    split splitlines startswith strip update upper values zfill bit_length
""".split()

WORDS = """
    type typing typing_extensions enum Enum IntEnum StrEnum Flag IntFlag Generic Protocol ABC ABCMeta namedtuple
    NamedTuple TypedDict TYPE_CHECKING abstractmethod
""".split()

PARTS_OF_WORDS = ["dataclass", "overload", "contextmanager"]


def sources():
    return [(path.name, path.read_text(encoding="utf-8")) for path in sorted(FOLDER.glob("*.py"))]


def trees():
    return [(name, ast.parse(text)) for name, text in sources()]


def top_names(tree):
    names = []
    for node in tree.body:
        if isinstance(node, (ast.FunctionDef, ast.ClassDef)):
            names.append(node.name)
        elif isinstance(node, ast.Assign):
            names.append(node.targets[0].id)
        elif isinstance(node, ast.ImportFrom):
            names.extend(alias.asname or alias.name for alias in node.names)
    return names


def bound_names(tree):
    stored = [node.id for node in ast.walk(tree) if isinstance(node, ast.Name) and isinstance(node.ctx, ast.Store)]
    return stored + [node.arg for node in ast.walk(tree) if isinstance(node, ast.arg)]


class Language(unittest.TestCase):
    def test_the_folder_holds_plain_files_alone(self):
        names = [path.name for path in FOLDER.iterdir() if path.name != "__pycache__"]
        self.assertIn("__init__.py", names)
        for name in names:
            self.assertRegex(name, r"\A([a-z][a-z0-9_]*|__init__)\.py\Z")

    def test_sizes_and_signs(self):
        for name, text in sources():
            self.assertRegex(text, r"\A[ -~\n]*\Z", name)
            rows = text.split("\n")
            self.assertLessEqual(len(rows), 401, name)
            self.assertLessEqual(max(map(len, rows)), 120, name)
        for name, tree in trees():
            for node in ast.walk(tree):
                if isinstance(node, ast.FunctionDef):
                    self.assertLessEqual(node.end_lineno - node.lineno + 1, 40, (name, node.name))

    def test_words_that_stand_nowhere(self):
        for name, text in sources():
            for word in re.findall("[A-Za-z0-9_]+", text):
                self.assertNotIn(word, WORDS, name)
            for part in PARTS_OF_WORDS:
                self.assertNotIn(part, text, name)

    def test_statements_and_expressions(self):
        for name, tree in trees():
            for node in ast.walk(tree):
                place = (name, getattr(node, "lineno", 0))
                self.assertIn(type(node).__name__, NODES, place)
                if isinstance(node, ast.Constant):
                    self.assertIn(type(node.value), (int, str, bool, type(None)), place)
                if isinstance(node, ast.Assign):
                    self.assertEqual(1, len(node.targets), place)
                if isinstance(node, (ast.For, ast.While)):
                    self.assertEqual([], node.orelse, place)
                if isinstance(node, ast.ListComp):
                    self.assertEqual(1, len(node.generators), place)
                    self.assertLessEqual(len(node.generators[0].ifs), 1, place)
                if isinstance(node, (ast.FunctionDef, ast.ClassDef)):
                    self.assertEqual([], node.decorator_list, place)

    def test_imports(self):
        for name, tree in trees():
            for node in ast.walk(tree):
                if isinstance(node, ast.ImportFrom):
                    self.assertIn(node, tree.body, name)
                    self.assertRegex(node.module, r"\Aholeyard\.[a-z_]+\Z", name)
                    source = ast.parse((FOLDER / (node.module.partition(".")[2] + ".py")).read_text(encoding="utf-8"))
                    own = [each.name for each in source.body if isinstance(each, (ast.FunctionDef, ast.ClassDef))]
                    for alias in node.names:
                        self.assertIn(alias.name, own, name)

    def test_no_two_files_draw_from_one_another(self):
        drawn = {
            name.partition(".")[0]: [
                node.module.partition(".")[2] for node in tree.body if isinstance(node, ast.ImportFrom)
            ]
            for name, tree in trees()
        }
        while drawn:
            ready = [name for name in drawn if not any(other in drawn for other in drawn[name])]
            self.assertNotEqual([], ready, drawn)
            for name in ready:
                drawn.pop(name)

    def test_names(self):
        known = dir(__builtins__) if not isinstance(__builtins__, dict) else list(__builtins__)
        for name, tree in trees():
            tops, bound = top_names(tree), bound_names(tree)
            self.assertEqual(sorted(set(tops)), sorted(tops), name)
            for each in tops + bound:
                self.assertRegex(each, r"\A[A-Za-z][A-Za-z0-9_]*\Z", name)
                self.assertNotIn(each, known, name)
            for node in ast.walk(tree):
                if isinstance(node, ast.Name):
                    self.assertIn(node.id, tops + bound + BUILTINS, (name, node.lineno))
                if isinstance(node, ast.Attribute):
                    self.assertIn(node.attr, METHODS, (name, node.lineno))

    def test_sets_are_not_kept(self):
        for name, tree in trees():
            held = [
                inner for node in ast.walk(tree)
                if isinstance(node, ast.Call) and isinstance(node.func, ast.Name) and node.func.id in ("sorted", "len")
                for inner in node.args
            ]
            for node in ast.walk(tree):
                if isinstance(node, ast.Call) and isinstance(node.func, ast.Name) and node.func.id == "set":
                    self.assertIn(node, held, (name, node.lineno))


if __name__ == "__main__":
    unittest.main()

"""The small part of the language that the package keeps to, as far as it can be seen from the files."""

import ast
import pathlib
import re
import unittest

FOLDER = pathlib.Path(__file__).resolve().parent.parent / "holeyard"

NODES = """
    Module FunctionDef ClassDef arguments arg Lambda Return Assign AugAssign For While If Raise Try ExceptHandler
    ImportFrom alias Expr Pass Break Continue BoolOp And Or BinOp Add Sub Mult FloorDiv Mod Pow LShift RShift BitOr
    BitXor BitAnd UnaryOp Invert Not UAdd USub IfExp Dict List Tuple Set ListComp comprehension Compare Eq NotEq Lt LtE
    Gt GtE Is IsNot In NotIn Call keyword JoinedStr FormattedValue Constant Attribute Subscript Slice Name Load Store
""".split()

BUILTINS = """
    len range enumerate zip min max sum abs sorted reversed int str bool list tuple dict set isinstance ord repr any all
    divmod ValueError KeyError IndexError LookupError ZeroDivisionError StopIteration
""".split()

METHODS = """
    append clear copy count endswith extend find get index insert isalnum isalpha isdigit islower isspace isupper items
    join keys ljust lower lstrip partition pop remove replace reverse rfind rjust rpartition rsplit rstrip setdefault
    split splitlines startswith strip update upper values zfill bit_length
""".split()

WORDS = """
    type typing typing_extensions enum Enum IntEnum StrEnum Flag IntFlag Generic Protocol ABC ABCMeta namedtuple
    NamedTuple TypedDict TYPE_CHECKING abstractmethod
""".split()

PARTS_OF_WORDS = ["dataclass", "overload", "contextmanager"]


def sources():
    return [(path.name, path.read_text(encoding="utf-8")) for path in sorted(FOLDER.glob("*.py"))]


def trees():
    return [(name, ast.parse(text)) for name, text in sources()]


def top_names(tree):
    names = []
    for node in tree.body:
        if isinstance(node, (ast.FunctionDef, ast.ClassDef)):
            names.append(node.name)
        elif isinstance(node, ast.Assign):
            names.append(node.targets[0].id)
        elif isinstance(node, ast.ImportFrom):
            names.extend(alias.asname or alias.name for alias in node.names)
    return names


def bound_names(tree):
    stored = [node.id for node in ast.walk(tree) if isinstance(node, ast.Name) and isinstance(node.ctx, ast.Store)]
    return stored + [node.arg for node in ast.walk(tree) if isinstance(node, ast.arg)]


def calls_of(tree, *names):
    return [
        node for node in ast.walk(tree)
        if isinstance(node, ast.Call) and isinstance(node.func, ast.Name) and node.func.id in names
    ]


def joined_by_bits(node):
    """The parts of an expression with - & | ^ between them."""
    if isinstance(node, ast.BinOp) and isinstance(node.op, (ast.Sub, ast.BitAnd, ast.BitOr, ast.BitXor)):
        return joined_by_bits(node.left) + joined_by_bits(node.right)
    return [node]


class Language(unittest.TestCase):
    def test_the_folder_holds_plain_files_alone(self):
        names = [path.name for path in FOLDER.iterdir() if path.name != "__pycache__"]
        self.assertIn("__init__.py", names)
        for name in names:
            self.assertRegex(name, r"\A([a-z][a-z0-9_]*|__init__)\.py\Z")

    def test_sizes_and_signs(self):
        for name, text in sources():
            self.assertRegex(text, r"\A[ -~\n]*\Z", name)
            rows = text.split("\n")
            self.assertLessEqual(len(rows), 401, name)
            self.assertLessEqual(max(map(len, rows)), 120, name)
        for name, tree in trees():
            for node in ast.walk(tree):
                if isinstance(node, ast.FunctionDef):
                    self.assertLessEqual(node.end_lineno - node.lineno + 1, 40, (name, node.name))

    def test_words_that_stand_nowhere(self):
        for name, text in sources():
            for word in re.findall("[A-Za-z0-9_]+", text):
                self.assertNotIn(word, WORDS, name)
            for part in PARTS_OF_WORDS:
                self.assertNotIn(part, text, name)

    def test_statements_and_expressions(self):
        for name, tree in trees():
            for node in ast.walk(tree):
                place = (name, getattr(node, "lineno", 0))
                self.assertIn(type(node).__name__, NODES, place)
                if isinstance(node, ast.Constant):
                    self.assertIn(type(node.value), (int, str, bool, type(None)), place)
                if isinstance(node, ast.Assign):
                    self.assertEqual(1, len(node.targets), place)
                if isinstance(node, (ast.For, ast.While)):
                    self.assertEqual([], node.orelse, place)
                if isinstance(node, ast.ListComp):
                    self.assertEqual(1, len(node.generators), place)
                    self.assertLessEqual(len(node.generators[0].ifs), 1, place)
                if isinstance(node, (ast.FunctionDef, ast.ClassDef)):
                    self.assertEqual([], node.decorator_list, place)

    def test_imports(self):
        for name, tree in trees():
            for node in ast.walk(tree):
                if isinstance(node, ast.ImportFrom):
                    self.assertIn(node, tree.body, name)
                    self.assertRegex(node.module, r"\Aholeyard\.[a-z_]+\Z", name)
                    source = ast.parse((FOLDER / (node.module.partition(".")[2] + ".py")).read_text(encoding="utf-8"))
                    own = [each.name for each in source.body if isinstance(each, (ast.FunctionDef, ast.ClassDef))]
                    for alias in node.names:
                        self.assertIn(alias.name, own, name)

    def test_no_two_files_draw_from_one_another(self):
        drawn = {
            name.partition(".")[0]: [
                node.module.partition(".")[2] for node in tree.body if isinstance(node, ast.ImportFrom)
            ]
            for name, tree in trees()
        }
        while drawn:
            ready = [name for name in drawn if not any(other in drawn for other in drawn[name])]
            self.assertNotEqual([], ready, drawn)
            for name in ready:
                drawn.pop(name)

    def test_names(self):
        known = dir(__builtins__) if not isinstance(__builtins__, dict) else list(__builtins__)
        for name, tree in trees():
            tops, bound = top_names(tree), bound_names(tree)
            self.assertEqual(sorted(set(tops)), sorted(tops), name)
            for each in tops + bound:
                self.assertRegex(each, r"\A[A-Za-z][A-Za-z0-9_]*\Z", name)
                self.assertNotIn(each, known, name)
            for node in ast.walk(tree):
                if isinstance(node, ast.Name):
                    self.assertIn(node.id, tops + bound + BUILTINS, (name, node.lineno))
                if isinstance(node, ast.Attribute):
                    self.assertIn(node.attr, METHODS, (name, node.lineno))

    def test_sets_are_not_kept(self):
        for name, tree in trees():
            held = []
            for call in calls_of(tree, "sorted", "len"):
                held.extend(joined_by_bits(call.args[0]) if call.args and not call.keywords else [])
            for node in calls_of(tree, "set", "frozenset"):
                self.assertIn(node, held, (name, node.lineno))
            for node in ast.walk(tree):
                self.assertNotIsInstance(node, ast.Set, name)

    def test_a_row_by_itself_is_a_call_and_texts_stand_at_the_top_alone(self):
        for name, tree in trees():
            for node in ast.walk(tree):
                if isinstance(node, ast.Expr) and node is not tree.body[0]:
                    self.assertIsInstance(node.value, ast.Call, (name, node.lineno))
            self.assertIsNotNone(ast.get_docstring(tree), name)

    def test_the_top_of_a_file(self):
        for name, tree in trees():
            for node in tree.body[1:]:
                self.assertIsInstance(node, (ast.ImportFrom, ast.FunctionDef, ast.ClassDef, ast.Assign), name)
                if isinstance(node, ast.Assign):
                    ast.literal_eval(node.value)
            for node in ast.walk(tree):
                if isinstance(node, ast.ClassDef):
                    self.assertIn(node, tree.body, name)

    def test_plain_parameters_without_annotations(self):
        for name, tree in trees():
            for node in ast.walk(tree):
                if isinstance(node, ast.arguments):
                    self.assertEqual([], node.posonlyargs + node.kwonlyargs, name)
                    self.assertEqual((None, None), (node.vararg, node.kwarg), name)
                if isinstance(node, ast.arg):
                    self.assertIsNone(node.annotation, name)
                if isinstance(node, ast.FunctionDef):
                    self.assertIsNone(node.returns, name)

    def test_no_name_is_given_another_meaning(self):
        for name, tree in trees():
            for function in [node for node in ast.walk(tree) if isinstance(node, (ast.FunctionDef, ast.Lambda))]:
                for each in bound_names(function):
                    self.assertNotIn(each, top_names(tree), name)

    def test_is_stands_beside_none_and_truths_alone(self):
        for name, tree in trees():
            for node in ast.walk(tree):
                if isinstance(node, ast.Compare) and any(isinstance(each, (ast.Is, ast.IsNot)) for each in node.ops):
                    written = [side.value for side in [node.left] + node.comparators if isinstance(side, ast.Constant)]
                    self.assertTrue(any(value in (None, True, False) for value in written), (name, node.lineno))

    def test_what_is_walked_is_walked_at_once(self):
        for name, tree in trees():
            walked = []
            for node in ast.walk(tree):
                if isinstance(node, (ast.For, ast.comprehension)):
                    walked.append(node.iter)
            for call in calls_of(tree, "list", "tuple", "dict", "sorted", "sum", "any", "all", "enumerate", "zip"):
                walked.extend(call.args[:1])
            for node in calls_of(tree, "zip", "enumerate", "reversed", "range"):
                self.assertIn(node, walked, (name, node.lineno))

    def test_own_names_of_python_are_called_and_not_handed_on(self):
        for name, tree in trees():
            called = [node.func for node in ast.walk(tree) if isinstance(node, ast.Call)]
            kinds = [
                each for call in calls_of(tree, "isinstance")
                for each in (call.args[1].elts if isinstance(call.args[1], ast.Tuple) else [call.args[1]])
            ]
            bases = [each for node in ast.walk(tree) if isinstance(node, ast.ClassDef) for each in node.bases]
            for node in ast.walk(tree):
                if isinstance(node, ast.Name) and node.id in BUILTINS:
                    self.assertIn(node, called + kinds + bases, (name, node.lineno))
                if isinstance(node, ast.Attribute):
                    self.assertIn(node, called, (name, node.lineno))

    def test_no_keywords_powers_or_signs_of_filled_in_texts(self):
        for name, tree in trees():
            for node in ast.walk(tree):
                if isinstance(node, ast.Call):
                    self.assertEqual([], node.keywords, (name, node.lineno))
                self.assertNotIsInstance(node, ast.Pow, name)
                if isinstance(node, ast.Constant) and isinstance(node.value, str):
                    self.assertNotIn("%", node.value, (name, node.lineno))

    def test_refusals_are_made_on_the_spot(self):
        for name, tree in trees():
            for node in ast.walk(tree):
                if isinstance(node, ast.Raise):
                    self.assertIsInstance(node.exc, ast.Call, (name, node.lineno))
                    self.assertIn(node.exc.func.id, top_names(tree), (name, node.lineno))


if __name__ == "__main__":
    unittest.main()

"""The form of the package's files, as far as a walk through them can see it."""

import ast
import builtins
import re
import unittest
from pathlib import Path

PACKAGE = Path(__file__).resolve().parent.parent / "allhits"

NODES = """Module FunctionDef ClassDef Return Assign AugAssign For While If Raise Try ExceptHandler ImportFrom alias
    Expr Pass Break Continue BoolOp And Or BinOp Add Sub Mult FloorDiv Mod Pow LShift RShift BitOr BitXor BitAnd UnaryOp
    Invert Not USub UAdd Lambda IfExp Dict List Tuple Set ListComp comprehension Compare Eq NotEq Lt LtE Gt GtE Is IsNot
    In NotIn Call keyword FormattedValue JoinedStr Constant Attribute Subscript Slice Name Load Store arguments
    arg""".split()

BUILT_IN = """len range enumerate zip min max sum abs sorted reversed int str bool list tuple dict set frozenset
    isinstance ord repr any all divmod Exception ValueError KeyError IndexError LookupError ZeroDivisionError
    ArithmeticError OverflowError RuntimeError NotImplementedError StopIteration""".split()

BANNED_WORDS = """type typing typing_extensions enum Enum IntEnum StrEnum Flag IntFlag Generic Protocol ABC ABCMeta
    namedtuple NamedTuple TypedDict TYPE_CHECKING abstractmethod""".split()

METHODS = """append clear copy count endswith extend find get index insert isalnum isalpha isdigit islower isspace
    isupper items join keys ljust lower lstrip partition pop remove replace reverse rfind rjust rpartition rsplit rstrip
    setdefault split splitlines startswith strip update upper values zfill bit_length""".split()

KEYWORDS = {"sorted": ["key", "reverse"], "min": ["key", "default"], "max": ["key", "default"], "sum": ["start"],
            "enumerate": ["start"], "zip": ["strict"]}

WALKED_AT_ONCE = ["zip", "enumerate", "reversed", "range", "items", "keys", "values"]

WALKERS = ["list", "tuple", "dict", "sorted", "sum", "any", "all", "enumerate", "zip", "min", "max"]

TWO_UNDERSCORES = ["__init__", "__eq__", "__repr__", "__str__", "__len__", "__all__", "__version__"]


def files():
    return sorted(path for path in PACKAGE.rglob("*") if path.is_file() and "__pycache__" not in path.parts)


def trees():
    return [(path.name, ast.parse(path.read_text("ascii"))) for path in files()]


def bound_names(tree):
    """Every name that a file binds, with its row."""
    for node in ast.walk(tree):
        if isinstance(node, (ast.FunctionDef, ast.ClassDef)):
            yield node.name, node.lineno
        elif isinstance(node, ast.arg):
            yield node.arg, node.lineno
        elif isinstance(node, ast.Name) and isinstance(node.ctx, ast.Store):
            yield node.id, node.lineno


def called(node):
    """The name by which something is called, or None where nothing is."""
    if not isinstance(node, ast.Call):
        return None
    return node.func.attr if isinstance(node.func, ast.Attribute) else getattr(node.func, "id", None)


def with_parents(tree):
    for parent in ast.walk(tree):
        for node in ast.iter_child_nodes(parent):
            yield parent, node


def walks(parent, node):
    return isinstance(parent, (ast.For, ast.comprehension)) and parent.iter is node


class TestLanguage(unittest.TestCase):
    def test_files_have_plain_names(self):
        self.assertIn("__init__.py", [path.name for path in files()])
        for path in files():
            self.assertRegex(path.name, r"\A(__init__|__main__|[a-z][a-z0-9_]*)\.py\Z")

    def test_signs_and_sizes(self):
        for path in files():
            text = path.read_text("ascii")
            self.assertRegex(text, r"\A[\n -~]*\Z", path.name)
            rows = text.splitlines()
            self.assertLessEqual(len(rows), 400, path.name)
            self.assertLessEqual(max(len(row) for row in rows), 120, path.name)

    def test_words_that_stand_nowhere(self):
        for path in files():
            text = path.read_text("ascii")
            self.assertEqual([w for w in BANNED_WORDS if re.search(rf"\b{w}\b", text)], [], path.name)
            self.assertIsNone(re.search("dataclass|overload|contextmanager", text), path.name)

    def test_forms(self):
        for name, tree in trees():
            for node in ast.walk(tree):
                where = (name, getattr(node, "lineno", 0), type(node).__name__)
                self.assertIn(type(node).__name__, NODES, where)
                if isinstance(node, ast.FunctionDef):
                    self.assertLessEqual(node.end_lineno - node.lineno + 1, 40, where)
                    self.assertEqual(node.decorator_list, [], where)
                if isinstance(node, ast.Constant):
                    self.assertIsInstance(node.value, (int, str, type(None)), where)
                if isinstance(node, (ast.For, ast.While)):
                    self.assertEqual(node.orelse, [], where)
                if isinstance(node, ast.BinOp) and isinstance(node.op, ast.Pow):
                    self.assertIsInstance(node.right, ast.Constant, where)
                if isinstance(node, ast.Compare) and isinstance(node.ops[0], (ast.Is, ast.IsNot)):
                    self.assertIn(ast.unparse(node.comparators[0]), ["None", "True", "False"], where)

    def test_comprehensions_and_assignments_have_one_part(self):
        for name, tree in trees():
            for node in ast.walk(tree):
                if isinstance(node, ast.ListComp):
                    self.assertEqual(len(node.generators), 1, (name, node.lineno))
                    self.assertLessEqual(len(node.generators[0].ifs), 1, (name, node.lineno))
                if isinstance(node, ast.Assign):
                    self.assertEqual(len(node.targets), 1, (name, node.lineno))
                    self.assertNotIsInstance(node.targets[0], (ast.Tuple, ast.List), (name, node.lineno))

    def test_methods_are_the_packages_own_or_listed_ones(self):
        nodes = [(name, node) for name, tree in trees() for node in ast.walk(tree)]
        own = [part.name for name, node in nodes if isinstance(node, ast.ClassDef)
               for part in node.body if isinstance(part, ast.FunctionDef)]
        own.extend(node.attr for name, node in nodes
                   if isinstance(node, ast.Attribute) and isinstance(node.ctx, ast.Store))
        for name, node in nodes:
            if isinstance(node, ast.Attribute):
                self.assertIn(node.attr, METHODS + own, (name, node.lineno))

    def test_no_two_files_draw_from_one_another(self):
        drawn = {f"allhits.{name[:-3]}": {node.module for node in tree.body if isinstance(node, ast.ImportFrom)}
                 for name, tree in trees()}
        while drawn:
            free = [name for name, modules in drawn.items() if not modules & set(drawn)]
            self.assertTrue(free, drawn)
            for name in free:
                drawn.pop(name)

    def test_words_by_themselves_stand_at_the_top_of_a_file_alone(self):
        for name, tree in trees():
            self.assertIsNotNone(ast.get_docstring(tree), name)
            for node in ast.walk(tree):
                if isinstance(node, ast.Expr) and not isinstance(node.value, ast.Call):
                    self.assertIs(node, tree.body[0], (name, node.lineno))

    def test_imports_are_the_packages_own(self):
        for name, tree in trees():
            for node in ast.walk(tree):
                if isinstance(node, ast.ImportFrom):
                    where = (name, node.lineno)
                    self.assertEqual(node.level, 0, where)
                    self.assertRegex(node.module, r"\Aallhits\.[a-z_]+\Z", where)
                    self.assertNotIn("*", [alias.name for alias in node.names], where)
                    self.assertIn(node, tree.body, where)

    def test_names(self):
        for name, tree in trees():
            imported = [alias.name for node in tree.body if isinstance(node, ast.ImportFrom) for alias in node.names]
            for bound, row in bound_names(tree):
                self.assertNotIn(bound, dir(builtins), (name, row))
                self.assertNotIn(bound, imported, (name, row))
                if bound not in TWO_UNDERSCORES:
                    self.assertRegex(bound, r"\A[A-Za-z][A-Za-z0-9_]*\Z", (name, row))

    def test_built_in_names(self):
        for name, tree in trees():
            own = [bound for bound, row in bound_names(tree)]
            for node in ast.walk(tree):
                if isinstance(node, ast.Name) and node.id not in own and node.id in dir(builtins):
                    self.assertIn(node.id, BUILT_IN, (name, node.lineno))

    def test_errors_are_made_on_the_spot_and_taken_by_name(self):
        for name, tree in trees():
            for node in ast.walk(tree):
                if isinstance(node, ast.Raise):
                    self.assertIsInstance(node.exc, ast.Call, (name, node.lineno))
                if isinstance(node, ast.ExceptHandler):
                    self.assertIsNotNone(node.type, (name, node.lineno))
                    self.assertNotIn(ast.unparse(node.type), ["Exception", "TypeError"], (name, node.lineno))

    def test_keywords(self):
        for name, tree in trees():
            for node in ast.walk(tree):
                for keyword in node.keywords if isinstance(node, ast.Call) else []:
                    self.assertIn(keyword.arg, KEYWORDS.get(called(node), []), (name, node.lineno))

    def test_what_is_walked_at_once(self):
        for name, tree in trees():
            for parent, node in with_parents(tree):
                if called(node) in WALKED_AT_ONCE:
                    self.assertTrue(walks(parent, node) or called(parent) in WALKERS, (name, node.lineno))

    def test_sets_are_neither_kept_nor_walked(self):
        for name, tree in trees():
            for parent, node in with_parents(tree):
                if called(node) in ("set", "frozenset") or isinstance(node, ast.Set):
                    right = called(parent) in ("sorted", "len") and not parent.keywords
                    self.assertTrue(right or isinstance(parent, (ast.Compare, ast.BinOp)), (name, node.lineno))

    def test_what_stands_at_the_top_of_a_file(self):
        for name, tree in trees():
            given = [node for node in tree.body if isinstance(node, ast.Assign)]
            for node in tree.body[1:]:
                where = (name, node.lineno)
                self.assertIsInstance(node, (ast.ImportFrom, ast.FunctionDef, ast.ClassDef, ast.Assign), where)
            for node in given:
                inner = [part for part in ast.walk(node.value)
                         if part is not node.value and isinstance(part, (ast.List, ast.Dict))]
                self.assertEqual(inner, [], (name, node.lineno))
            bound = [node.targets[0].id for node in given]
            bound.extend(node.name for node in tree.body if isinstance(node, (ast.FunctionDef, ast.ClassDef)))
            self.assertEqual(len(set(bound)), len(bound), name)

    def test_lists_and_dicts_of_the_top_are_only_read(self):
        for name, tree in trees():
            top = [node.targets[0].id for node in tree.body
                   if isinstance(node, ast.Assign) and isinstance(node.value, (ast.List, ast.Dict))]
            for parent, node in with_parents(tree):
                if isinstance(node, ast.Name) and isinstance(node.ctx, ast.Load) and node.id in top:
                    read = isinstance(parent, ast.Subscript) and isinstance(parent.ctx, ast.Load)
                    read = read or isinstance(parent, ast.Compare) or called(parent) in ("len", "list", "dict")
                    self.assertTrue(read or walks(parent, node), (name, node.lineno))

    def test_no_name_is_a_method_and_a_value(self):
        nodes = [node for name, tree in trees() for node in ast.walk(tree)]
        values = {node.attr for node in nodes if isinstance(node, ast.Attribute) and isinstance(node.ctx, ast.Store)}
        methods = [part.name for node in nodes if isinstance(node, ast.ClassDef)
                   for part in node.body if isinstance(part, ast.FunctionDef)]
        self.assertEqual(values & set(methods), set())
        self.assertEqual(values & set(METHODS), set())

    def test_texts(self):
        for name, tree in trees():
            for node in ast.walk(tree):
                if isinstance(node, ast.Constant) and isinstance(node.value, str):
                    self.assertNotIn("%", node.value, (name, node.lineno))


if __name__ == "__main__":
    unittest.main()

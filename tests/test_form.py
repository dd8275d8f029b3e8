"""The form of the package's files: files, kinds of nodes, names (the rules on how names are used: form_rules.py)."""

import ast
import builtins
import pathlib
import re
import unittest

PACKAGE = pathlib.Path(__file__).resolve().parent.parent / "sorthall"

KINDS = {
    # L3 to L6: the file, what is defined in it, and statements
    "Module", "FunctionDef", "ClassDef", "Lambda", "arguments", "arg", "ImportFrom", "alias", "Assign", "AugAssign",
    "If", "While", "For", "Return", "Break", "Continue", "Pass", "Raise", "Try", "ExceptHandler", "Expr",
    # L7: values and expressions
    "Constant", "List", "Tuple", "Dict", "Set", "BinOp", "UnaryOp", "BoolOp", "Compare", "IfExp", "Call", "keyword",
    "Attribute", "Subscript", "Slice", "Name", "ListComp", "comprehension", "JoinedStr", "FormattedValue",
    "Load", "Store", "And", "Or", "Not", "USub", "Invert",
    "Add", "Sub", "Mult", "FloorDiv", "Mod", "Pow", "LShift", "RShift", "BitAnd", "BitOr", "BitXor",
    "Eq", "NotEq", "Lt", "LtE", "Gt", "GtE", "In", "NotIn", "Is", "IsNot",
}
BUILT_IN = set(
    "len range enumerate zip min max sum abs sorted reversed int str bool list tuple dict set frozenset isinstance ord"
    " repr any all divmod Exception ValueError TypeError KeyError IndexError LookupError ZeroDivisionError"
    " ArithmeticError OverflowError RuntimeError NotImplementedError AttributeError StopIteration".split()
)
METHODS = set(
    "append clear copy count endswith extend find get index insert isalnum isalpha isdigit islower isspace isupper"
    " items join keys ljust lower lstrip partition pop remove replace reverse rfind rjust rpartition rsplit rstrip"
    " setdefault split splitlines startswith strip update upper values zfill bit_length __init__".split()
)
DUNDERS = {"__init__", "__eq__", "__repr__", "__str__", "__len__"}
VALUES_LIKE_METHODS = set("count index title find get join lower upper split strip copy add".split())
OWN_METHODS_LIKE_THEIRS = METHODS | {"add", "discard"}
UNUSED = set("register mro elements open input version_info with_traceback add_note format format_map".split())
WORDS = re.compile(
    r"\b(type|typing|typing_extensions|enum|Enum|IntEnum|StrEnum|Flag|IntFlag|Generic|Protocol|ABC|ABCMeta|namedtuple"
    r"|NamedTuple|TypedDict|TYPE_CHECKING|abstractmethod)\b|dataclass|overload|contextmanager"
)
PYTHONS_OWN = {name for kind in (str, int, list, tuple, dict, set, frozenset, bytes) for name in dir(kind)}


def paths():
    return sorted(path for path in PACKAGE.rglob("*") if "__pycache__" not in path.parts)


class Form(unittest.TestCase):
    def setUp(self):
        self.texts = {path: path.read_text(encoding="utf-8") for path in paths()}
        self.trees = {path: ast.parse(text) for path, text in self.texts.items()}

    def nodes(self, *kinds):
        for path, tree in self.trees.items():
            for node in ast.walk(tree):
                if not kinds or isinstance(node, kinds):
                    yield f"{path.name}:{getattr(node, 'lineno', 0)}", node

    def stored_values(self):
        return {node.attr for where, node in self.nodes(ast.Attribute) if isinstance(node.ctx, ast.Store)}

    def methods(self):
        classes = [node for where, node in self.nodes(ast.ClassDef)]
        return {part.name for node in classes for part in node.body if isinstance(part, ast.FunctionDef)}

    def test_files(self):
        self.assertIn("__init__.py", [path.name for path in self.texts])
        for path in self.texts:
            self.assertRegex(path.name, r"^(__init__|__main__|[a-z][a-z0-9_]*)\.py$")
            self.assertTrue(path.stem.startswith("__") or not hasattr(builtins, path.stem), path)
            self.assertNotRegex(path.stem, r"^(test|tests|testing|test_.*|site|conftest|sitecustomize|usercustomize)$")
            self.assertIsNone(WORDS.search(path.stem), path)

    def test_signs_and_size(self):
        for path, text in self.texts.items():
            self.assertRegex(text, r"\A[ -~\n]*\Z", path)
            self.assertLessEqual(len(text.splitlines()), 400, path)
            self.assertLessEqual(max(map(len, text.splitlines()), default=0), 120, path)
            self.assertIsNone(WORDS.search(text), path)

    def test_kinds_of_nodes(self):
        for where, node in self.nodes():
            self.assertIn(node.__class__.__name__, KINDS, where)

    def test_imports(self):
        for where, node in self.nodes(ast.ImportFrom):
            self.assertEqual(node.level, 0, where)
            self.assertTrue(node.module.startswith("sorthall."), where)
            self.assertNotIn("*", [alias.name for alias in node.names], where)

    def test_tops(self):
        plain = (ast.FunctionDef, ast.ClassDef, ast.ImportFrom, ast.Assign, ast.Expr)
        for path, tree in self.trees.items():
            self.assertTrue(ast.get_docstring(tree), path)
            for place, node in enumerate(tree.body):
                self.assertIsInstance(node, plain, path)
                self.assertTrue(place == 0 or not isinstance(node, ast.Expr), path)

    def test_functions(self):
        for where, node in self.nodes(ast.FunctionDef):
            self.assertEqual(node.decorator_list, [], where)
            self.assertLessEqual(node.end_lineno - node.lineno + 1, 40, where)
            self.assertFalse(node.args.vararg or node.args.kwarg or node.args.kwonlyargs or node.args.posonlyargs, where)

    def test_classes(self):
        for where, node in self.nodes(ast.ClassDef):
            self.assertEqual(node.decorator_list + node.keywords, [], where)
            self.assertLessEqual(len(node.bases), 1, where)
            names = [part.name for part in node.body if isinstance(part, ast.FunctionDef)]
            self.assertEqual(len(names), len(set(names)), where)
            for part in node.body:
                self.assertIsInstance(part, (ast.FunctionDef, ast.Expr, ast.Pass), where)

    def test_statements(self):
        for where, node in self.nodes(ast.For, ast.While):
            self.assertEqual(node.orelse, [], where)
        for where, node in self.nodes(ast.Assign):
            self.assertEqual(len(node.targets), 1, where)
        for where, node in self.nodes(ast.Try):
            self.assertEqual(node.finalbody, [], where)
        for where, node in self.nodes(ast.ListComp):
            self.assertEqual(len(node.generators), 1, where)
            self.assertLessEqual(len(node.generators[0].ifs), 1, where)

    def test_values(self):
        for where, node in self.nodes(ast.Constant):
            self.assertNotIsInstance(node.value, (float, complex, bytes), where)
            self.assertFalse(isinstance(node.value, str) and "%" in node.value, where)
        for where, node in self.nodes(ast.BinOp):
            if isinstance(node.op, ast.Pow):
                self.assertTrue(isinstance(node.right, ast.Constant) and 0 <= node.right.value <= 64, where)
        for where, node in self.nodes(ast.Compare):
            for op, right in zip(node.ops, node.comparators):
                if isinstance(op, (ast.Is, ast.IsNot)):
                    self.assertTrue(isinstance(right, ast.Constant) and right.value in (None, True, False), where)

    def test_names(self):
        for where, node in self.nodes(ast.Name, ast.arg, ast.FunctionDef, ast.ClassDef):
            name = getattr(node, "id", None) or getattr(node, "arg", None) or getattr(node, "name", None)
            if name not in DUNDERS:
                self.assertRegex(name, r"^[A-Za-z][A-Za-z0-9_]*$", where)
            self.assertNotIn(name, UNUSED, where)
        for where, node in self.nodes(ast.Name):
            if hasattr(builtins, node.id):
                self.assertIsInstance(node.ctx, ast.Load, where)
                self.assertIn(node.id, BUILT_IN, where)
        for where, node in self.nodes(ast.arg):
            self.assertFalse(hasattr(builtins, node.arg), where)

    def test_methods_and_values(self):
        methods = self.methods()
        values = self.stored_values()
        self.assertEqual(methods & values, set())
        self.assertEqual((values & PYTHONS_OWN) - VALUES_LIKE_METHODS, set())
        self.assertEqual(values & {"args", "sort"}, set())
        self.assertEqual((methods & PYTHONS_OWN) - OWN_METHODS_LIKE_THEIRS - DUNDERS, set())
        self.assertEqual({name for name in methods if name.startswith("_")} - DUNDERS, set())
        for where, node in self.nodes(ast.Attribute):
            self.assertIn(node.attr, methods | values | METHODS, where)
            self.assertNotIn(node.attr, UNUSED, where)


if __name__ == "__main__":
    unittest.main()

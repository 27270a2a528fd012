"""The rules of the language that can be seen in a file, held against every file of the package.

A rule's number stands in each complaint. What needs a reader (L9, L11, parts of L15, L19 and L23) isn't looked for here.
"""

import ast
import re
import unittest
from pathlib import Path

PACKAGE = Path(__file__).resolve().parent.parent / "homeward"

NODES = (
    "Module Expr Constant ImportFrom alias FunctionDef arguments arg ClassDef Assign AugAssign If While For Return Break "
    "Continue Pass Raise Try ExceptHandler Call keyword Name Load Store Attribute Subscript Slice List Tuple Dict Set "
    "ListComp comprehension Lambda IfExp BoolOp And Or UnaryOp Not USub Invert UAdd BinOp Add Sub Mult FloorDiv Mod Pow "
    "BitAnd BitOr BitXor LShift RShift Compare Eq NotEq Lt LtE Gt GtE In NotIn Is IsNot JoinedStr FormattedValue"
).split()
BUILT_IN = (
    "len range enumerate zip min max sum abs sorted reversed int str bool list tuple dict set frozenset isinstance ord "
    "repr any all divmod Exception ValueError TypeError KeyError IndexError LookupError ZeroDivisionError "
    "ArithmeticError OverflowError RuntimeError NotImplementedError AttributeError StopIteration"
).split()
METHODS = (
    "append clear copy count endswith extend find get index insert isalnum isalpha isdigit islower isspace isupper items "
    "join keys ljust lower lstrip partition pop remove replace reverse rfind rjust rpartition rsplit rstrip setdefault "
    "split splitlines startswith strip update upper values zfill bit_length"
).split()
DUNDERS = ["__init__", "__eq__", "__repr__", "__str__", "__len__"]
BANNED_NAMES = "register mro elements open input version_info with_traceback add_note format format_map chr".split()
BANNED_WORDS = (
    "type typing typing_extensions enum Enum IntEnum StrEnum Flag IntFlag Generic Protocol ABC ABCMeta namedtuple "
    "NamedTuple TypedDict TYPE_CHECKING abstractmethod"
).split()
BANNED_PARTS = ["dataclass", "overload", "contextmanager"]
BANNED_VALUES = "items keys values pop update append clear extend insert remove reverse setdefault sort args encode".split()
OWN_KINDS = (str, int, list, dict, set, bytes, tuple)


def sources():
    return {path.stem: path.read_text(encoding="utf-8") for path in sorted(PACKAGE.glob("*.py"))}


SOURCES = sources()
TREES = {name: ast.parse(text) for name, text in SOURCES.items()}


def all_nodes(kind):
    return [(name, node) for name, tree in TREES.items() for node in ast.walk(tree) if isinstance(node, kind)]


def top_names(tree):
    names = []
    for node in tree.body:
        if isinstance(node, (ast.FunctionDef, ast.ClassDef)):
            names.append(node.name)
        elif isinstance(node, ast.Assign):
            names.append(node.targets[0].id)
    return names


def imported_names(tree):
    return [alias.name for node in tree.body if isinstance(node, ast.ImportFrom) for alias in node.names]


def methods_of(node):
    return [part for part in node.body if isinstance(part, ast.FunctionDef)]


def is_plain(node, names):
    if isinstance(node, ast.Constant):
        return node.value is None or isinstance(node.value, (bool, int, str))
    if isinstance(node, ast.Name):
        return node.id in names
    if isinstance(node, (ast.List, ast.Tuple)):
        return all(is_plain(part, names) for part in node.elts)
    if isinstance(node, ast.Dict):
        return all(is_plain(part, names) for part in node.keys + node.values)
    return False


class Files(unittest.TestCase):
    def test_l1_l14_files(self):
        self.assertIn("__init__", SOURCES)
        for path in PACKAGE.iterdir():
            if path.name != "__pycache__":
                self.assertRegex(path.name, r"^[a-z0-9_]+\.py$", "L1, L14")

    def test_l10_l14_signs_and_sizes(self):
        for name, text in SOURCES.items():
            self.assertIsNone(re.search(r"[^ -~\n]", text), f"L14 {name}")
            rows = text.splitlines()
            self.assertLessEqual(len(rows), 400, f"L10 {name}")
            self.assertLessEqual(max(len(row) for row in rows), 120, f"L10 {name}")
        for name, node in all_nodes(ast.FunctionDef):
            self.assertLessEqual(node.end_lineno - node.lineno + 1, 40, f"L10 {name} {node.name}")

    def test_l17_words(self):
        for name, text in SOURCES.items():
            for word in re.findall(r"[A-Za-z0-9_]+", text):
                self.assertNotIn(word, BANNED_WORDS, f"L17 {name}")
            for part in BANNED_PARTS:
                self.assertNotIn(part, text, f"L17 {name}")

    def test_l27_texts(self):
        for name, node in all_nodes(ast.Constant):
            if isinstance(node.value, str):
                self.assertNotIn("%", node.value, f"L27 {name}")
            self.assertNotIsInstance(node.value, (float, bytes, complex), f"L7 {name} {node.lineno}")


class Imports(unittest.TestCase):
    def test_l2_l16_from_the_very_file(self):
        for name, tree in TREES.items():
            for node in ast.walk(tree):
                if isinstance(node, ast.ImportFrom):
                    self.assertIn(node, tree.body, f"L2 {name}")
                    self.assertEqual(node.level, 0, f"L2 {name}")
                    home, dot, module = node.module.partition(".")
                    self.assertEqual(home, "homeward", f"L2 {name}")
                    for alias in node.names:
                        self.assertIn(alias.name, top_names(TREES[module]), f"L16 {name}")

    def test_l16_no_two_files_draw_from_one_another(self):
        drawn = {
            name: {node.module.split(".")[1] for node in tree.body if isinstance(node, ast.ImportFrom)}
            for name, tree in TREES.items()
        }
        while drawn:
            free = [name for name, others in drawn.items() if not others & set(drawn)]
            self.assertTrue(free, f"L16 {sorted(drawn)}")
            for name in free:
                del drawn[name]

    def test_l16_the_package_file_binds_nothing(self):
        self.assertEqual(len(TREES["__init__"].body), 1)


class Statements(unittest.TestCase):
    def test_l6_l7_kinds_of_nodes(self):
        for name, node in all_nodes(ast.AST):
            self.assertIn(type(node).__name__, NODES, f"L6, L7 {name} {getattr(node, 'lineno', 0)}")

    def test_l3_the_top(self):
        for name, tree in TREES.items():
            self.assertIsNotNone(ast.get_docstring(tree), f"L3 {name}")
            for node in tree.body[1:]:
                self.assertIsInstance(
                    node, (ast.ImportFrom, ast.FunctionDef, ast.ClassDef, ast.Assign), f"L3 {name} {node.lineno}")
                if isinstance(node, ast.Assign):
                    self.assertTrue(is_plain(node.value, top_names(tree)), f"L3 {name} {node.lineno}")

    def test_l15_each_name_once(self):
        for name, tree in TREES.items():
            names = top_names(tree) + imported_names(tree)
            self.assertEqual(len(names), len(set(names)), f"L15 {name}")

    def test_l6_calls_by_themselves_and_one_target(self):
        for name, node in all_nodes(ast.Expr):
            self.assertTrue(isinstance(node.value, ast.Call) or node.lineno == 1, f"L6 {name} {node.lineno}")
        for name, node in all_nodes(ast.Assign):
            self.assertEqual(len(node.targets), 1, f"L6 {name} {node.lineno}")
            self.assertNotIsInstance(node.targets[0], ast.Tuple, f"L6 {name} {node.lineno}")
        for name, node in all_nodes((ast.For, ast.While)):
            self.assertEqual(node.orelse, [], f"L6 {name} {node.lineno}")
        for name, node in all_nodes(ast.Try):
            self.assertEqual(node.finalbody, [], f"L6 {name} {node.lineno}")

    def test_l7_plain_names_in_f_strings(self):
        for name, node in all_nodes(ast.FormattedValue):
            self.assertIsInstance(node.value, ast.Name, f"L7 {name} {node.lineno}")
            self.assertIsNone(node.format_spec, f"L7 {name} {node.lineno}")

    def test_l7_one_walk_in_a_comprehension(self):
        for name, node in all_nodes(ast.ListComp):
            self.assertEqual(len(node.generators), 1, f"L7 {name} {node.lineno}")
            self.assertLessEqual(len(node.generators[0].ifs), 1, f"L7 {name} {node.lineno}")

    def test_l20_is(self):
        for name, node in all_nodes(ast.Compare):
            for sign, side in zip(node.ops, node.comparators):
                if isinstance(sign, (ast.Is, ast.IsNot)):
                    self.assertIsInstance(side, ast.Constant, f"L20 {name} {node.lineno}")
                    self.assertIn(side.value, (None, True, False), f"L20 {name} {node.lineno}")


class Definitions(unittest.TestCase):
    def test_l4_l21_parameters(self):
        for name, node in all_nodes(ast.FunctionDef):
            where = f"L4, L21 {name} {node.name}"
            self.assertEqual((node.decorator_list, node.returns), ([], None), where)
            self.assertEqual((node.args.vararg, node.args.kwarg), (None, None), where)
            self.assertEqual((node.args.kwonlyargs, node.args.posonlyargs), ([], []), where)
            for part in node.args.args:
                self.assertIsNone(part.annotation, where)

    def test_l5_l18_classes(self):
        for name, node in all_nodes(ast.ClassDef):
            where = f"L5 {name} {node.name}"
            self.assertIn(node, TREES[name].body, where)
            self.assertLessEqual(len(node.bases), 1, where)
            self.assertEqual((node.decorator_list, node.keywords), ([], []), where)
            for part in node.body:
                self.assertIsInstance(part, (ast.FunctionDef, ast.Pass), where)
            names = [part.name for part in methods_of(node)]
            self.assertEqual(len(names), len(set(names)), f"L18 {where}")

    def test_l18_l26_no_name_is_a_method_and_a_value(self):
        methods = {part.name for name, node in all_nodes(ast.ClassDef) for part in methods_of(node)}
        values = {node.attr for name, node in all_nodes(ast.Attribute) if isinstance(node.ctx, ast.Store)}
        self.assertEqual(methods & values, set(), "L18")
        self.assertEqual(values & set(BANNED_VALUES), set(), "L26")
        taken = {word for kind in OWN_KINDS for word in dir(kind)} - set(METHODS) - {"add", "discard"}
        self.assertEqual((methods - set(DUNDERS)) & taken, set(), "L26")

    def test_l25_methods_that_are_called(self):
        own = {part.name for name, node in all_nodes(ast.ClassDef) for part in methods_of(node)}
        for name, node in all_nodes(ast.Call):
            if isinstance(node.func, ast.Attribute):
                self.assertIn(node.func.attr, set(METHODS) | own, f"L25 {name} {node.lineno}")


class Names(unittest.TestCase):
    def test_l8_names_that_are_read(self):
        for name, tree in TREES.items():
            known = set(BUILT_IN) | set(top_names(tree)) | set(imported_names(tree))
            known |= {node.arg for node in ast.walk(tree) if isinstance(node, ast.arg)}
            known |= {node.id for node in ast.walk(tree) if isinstance(node, ast.Name) and isinstance(node.ctx, ast.Store)}
            known |= {node.name for node in ast.walk(tree) if isinstance(node, (ast.FunctionDef, ast.ExceptHandler))}
            for node in ast.walk(tree):
                if isinstance(node, ast.Name):
                    self.assertIn(node.id, known, f"L8 {name} {node.lineno}")

    def test_l12_l15_l17_names_that_are_bound(self):
        own = vars(__builtins__) if not isinstance(__builtins__, dict) else __builtins__
        for name, tree in TREES.items():
            bound = top_names(tree)
            outer = imported_names(tree) + [node.name for node in tree.body if isinstance(node, ast.ClassDef)]
            for node in ast.walk(tree):
                if isinstance(node, ast.arg):
                    bound.append(node.arg)
                    self.assertNotIn(node.arg, outer, f"L15 {name}")
                elif isinstance(node, ast.Name) and isinstance(node.ctx, ast.Store):
                    bound.append(node.id)
                    self.assertNotIn(node.id, outer, f"L15 {name}")
            for word in bound:
                self.assertRegex(word, r"^[A-Za-z][A-Za-z0-9_]*$", f"L12 {name}")
                self.assertNotIn(word, own, f"L8, L15 {name}")
                self.assertNotIn(word, BANNED_NAMES, f"L17 {name}")

    def test_l12_l17_attributes(self):
        for name, node in all_nodes(ast.Attribute):
            self.assertNotIn(node.attr, BANNED_NAMES, f"L17 {name} {node.lineno}")
            self.assertTrue(not node.attr.startswith("_") or node.attr == "__init__", f"L12 {name} {node.lineno}")


if __name__ == "__main__":
    unittest.main()

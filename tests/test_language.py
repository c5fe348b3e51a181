"""The package's files keep to the small part of Python that the program is written in.

Only what can be seen from the form of the code is looked at; each remark begins with the rule's number.
"""

import ast
import builtins
import re
import unittest
from pathlib import Path

PACKAGE = Path(__file__).resolve().parent.parent / "prunepath"
OWN_NAMES = set("""
    len range enumerate zip min max sum abs sorted reversed int str bool list tuple dict set frozenset isinstance ord
    repr any all divmod Exception ValueError TypeError KeyError IndexError LookupError ZeroDivisionError
    ArithmeticError OverflowError RuntimeError NotImplementedError AttributeError StopIteration
""".split())
METHODS = set("""
    append clear copy count endswith extend find get index insert isalnum isalpha isdigit islower isspace isupper items
    join keys ljust lower lstrip partition pop remove replace reverse rfind rjust rpartition rsplit rstrip setdefault
    split splitlines startswith strip update upper values zfill bit_length
""".split())
TWO_UNDERSCORES = {"__init__", "__eq__", "__repr__", "__str__", "__len__"}
NOT_USED = set("""
    register mro elements open input version_info with_traceback add_note format format_map attrgetter breakpoint
    builtins compile delattr dir eval exec exit gc getattr globals hasattr help id importlib locals methodcaller os
    quit setattr super type vars sys chr
""".split())
NOT_SAID = re.compile(
    r"\b(type|typing|typing_extensions|enum|Enum|IntEnum|StrEnum|Flag|IntFlag|Generic|Protocol|ABC|ABCMeta|namedtuple"
    r"|NamedTuple|TypedDict|TYPE_CHECKING|abstractmethod)\b|dataclass|overload|contextmanager"
)
NOT_WRITTEN = (
    ast.With, ast.Match, ast.Delete, ast.Global, ast.Nonlocal, ast.Assert, ast.Yield, ast.YieldFrom, ast.Await,
    ast.AsyncFunctionDef, ast.AsyncFor, ast.AsyncWith, ast.Import, ast.SetComp, ast.DictComp, ast.GeneratorExp,
    ast.NamedExpr, ast.Starred, ast.Div, ast.MatMult, ast.AnnAssign, ast.TryStar,
)

WALKED_AT_ONCE = ("zip", "enumerate", "reversed", "range", "items", "keys", "values")
WALKERS = ("list", "tuple", "dict", "sorted", "sum", "any", "all", "enumerate", "zip", "min", "max", "join")
KEYWORDS = {
    "sorted": ("key", "reverse"), "min": ("key", "default"), "max": ("key", "default"), "sum": ("start",),
    "enumerate": ("start",), "zip": ("strict",),
}


def texts():
    return {path.name: path.read_text(encoding="utf-8") for path in sorted(PACKAGE.glob("*.py"))}


def trees():
    return {name: ast.parse(text) for name, text in texts().items()}


def walked():
    for name, tree in trees().items():
        for node in ast.walk(tree):
            yield f"{name}:{getattr(node, 'lineno', 0)}", node


def bound_names(tree):
    names = set()
    for node in ast.walk(tree):
        if isinstance(node, ast.Name) and isinstance(node.ctx, ast.Store):
            names.add(node.id)
        elif isinstance(node, (ast.FunctionDef, ast.ClassDef)):
            names.add(node.name)
        elif isinstance(node, ast.arg):
            names.add(node.arg)
        elif isinstance(node, ast.alias):
            names.add(node.asname or node.name)
        elif isinstance(node, ast.ExceptHandler) and node.name:
            names.add(node.name)
    return names


def walked_with_parent():
    for name, tree in trees().items():
        for parent in ast.walk(tree):
            for node in ast.iter_child_nodes(parent):
                yield f"{name}:{getattr(node, 'lineno', 0)}", node, parent


def called(node):
    # The name that a call calls, a method's too; None for anything else.
    if not isinstance(node, ast.Call):
        return None
    return node.func.id if isinstance(node.func, ast.Name) else node.func.attr


def is_docstring(node):
    return isinstance(node, ast.Expr) and isinstance(node.value, ast.Constant) and isinstance(node.value.value, str)


class Language(unittest.TestCase):
    def test_files(self):
        for path in PACKAGE.iterdir():
            if path.name != "__pycache__":
                self.assertRegex(path.name, r"^(__init__|__main__|[a-z][a-z0-9_]*)\.py$", "L1, L14")
        self.assertIn("__init__.py", texts())

    def test_signs_and_sizes(self):
        for name, text in texts().items():
            rows = text.split("\n")
            self.assertEqual([sign for sign in text if sign != "\n" and not " " <= sign <= "~"], [], f"L14 {name}")
            self.assertLessEqual(len(rows), 400, f"L10 {name}")
            self.assertLessEqual(max(len(row) for row in rows), 120, f"L10 {name}")
            self.assertIsNone(NOT_SAID.search(text), f"L17 {name}")

    def test_functions(self):
        for where, node in walked():
            if isinstance(node, (ast.FunctionDef, ast.Lambda)):
                told = node.args
                self.assertFalse(told.vararg or told.kwarg or told.kwonlyargs or told.posonlyargs, f"L4 {where}")
            if isinstance(node, ast.FunctionDef):
                self.assertLessEqual(node.end_lineno - node.lineno + 1, 40, f"L10 {where}")
                self.assertEqual(node.decorator_list, [], f"L4 {where}")
                self.assertFalse(any(is_docstring(row) for row in node.body), f"L6 {where}")

    def test_classes(self):
        for where, node in walked():
            if isinstance(node, ast.ClassDef):
                self.assertFalse(node.decorator_list or node.keywords or len(node.bases) > 1, f"L5 {where}")
                for row in node.body:
                    self.assertIsInstance(row, (ast.FunctionDef, ast.Pass), f"L5 {where}")

    def test_methods_and_values_bear_unlike_names(self):
        methods = set()
        values = set()
        for where, node in walked():
            if isinstance(node, ast.ClassDef):
                methods.update(row.name for row in node.body if isinstance(row, ast.FunctionDef))
            if isinstance(node, ast.Attribute) and isinstance(node.ctx, ast.Store):
                values.add(node.attr)
        self.assertEqual(methods & values, set(), "L18")

    def test_top_of_a_module(self):
        for name, tree in trees().items():
            self.assertTrue(is_docstring(tree.body[0]), f"L3 {name}")
            bound = []
            for row in tree.body[1:]:
                self.assertIsInstance(row, (ast.ImportFrom, ast.FunctionDef, ast.ClassDef, ast.Assign), f"L3 {name}")
                bound.extend(target.id for target in getattr(row, "targets", []))
                bound.extend([row.name] if isinstance(row, (ast.FunctionDef, ast.ClassDef)) else [])
            self.assertEqual(len(bound), len(set(bound)), f"L15 {name}")

    def test_imports(self):
        drawn = {}
        for name, tree in trees().items():
            drawn[name] = []
            for node in ast.walk(tree):
                if isinstance(node, ast.ImportFrom):
                    self.assertEqual(node.level, 0, f"L2 {name}")
                    self.assertRegex(node.module, r"^prunepath\.[a-z_0-9]+$", f"L2 {name}")
                    source = node.module.split(".")[1] + ".py"
                    rows = [row for row in trees()[source].body if not isinstance(row, ast.ImportFrom)]
                    defined = bound_names(ast.Module(rows, []))
                    for alias in node.names:
                        self.assertIn(alias.name, defined, f"L16 {name}")
                    drawn[name].append(source)
        while drawn:
            free = [name for name in drawn if not any(source in drawn for source in drawn[name])]
            self.assertNotEqual(free, [], "L16: files that draw from one another")
            for name in free:
                drawn.pop(name)

    def test_forms(self):
        for where, node in walked():
            self.assertNotIsInstance(node, NOT_WRITTEN, f"L6, L7 {where}")
            if isinstance(node, (ast.For, ast.While)):
                self.assertEqual(node.orelse, [], f"L6 {where}")
            if isinstance(node, ast.Assign):
                self.assertEqual(len(node.targets), 1, f"L6 {where}")
            if isinstance(node, ast.Try):
                self.assertEqual(node.finalbody, [], f"L6 {where}")
            if isinstance(node, ast.ListComp):
                self.assertTrue(len(node.generators) == 1 and len(node.generators[0].ifs) <= 1, f"L7 {where}")
            if isinstance(node, ast.FormattedValue):
                self.assertTrue(isinstance(node.value, ast.Name) and not node.format_spec, f"L7 {where}")
            if isinstance(node, ast.Constant):
                self.assertIsInstance(node.value, (int, str, bool, type(None)), f"L7 {where}")
                self.assertNotIn("%", str(node.value), f"L27 {where}")
            if isinstance(node, ast.Compare) and any(isinstance(sign, (ast.Is, ast.IsNot)) for sign in node.ops):
                self.assertTrue(isinstance(node.comparators[0], ast.Constant), f"L20 {where}")
            if isinstance(node, ast.ExceptHandler):
                self.assertIsNotNone(node.type, f"L6 {where}")
                self.assertNotIn(ast.unparse(node.type), ("Exception", "TypeError"), f"L19 {where}")

    def test_annotations(self):
        for where, node in walked():
            if isinstance(node, ast.FunctionDef):
                self.assertIsNone(node.returns, f"L21 {where}")
            if isinstance(node, ast.arg):
                self.assertIsNone(node.annotation, f"L21 {where}")

    def test_keywords(self):
        for where, node in walked():
            if called(node) in OWN_NAMES | METHODS:
                for keyword in node.keywords:
                    self.assertIn(keyword.arg, KEYWORDS.get(called(node), ()), f"L22 {where}")

    def test_walked_at_once(self):
        for where, node, parent in walked_with_parent():
            if called(node) in WALKED_AT_ONCE:
                walks = isinstance(parent, (ast.For, ast.comprehension)) or called(parent) in WALKERS
                self.assertTrue(walks, f"L23 {where}")

    def test_sets(self):
        for where, node, parent in walked_with_parent():
            self.assertNotIsInstance(node, ast.Set, f"L13, L24 {where}")
            if called(node) in ("set", "frozenset"):
                asked = isinstance(parent, (ast.Compare, ast.BinOp)) or called(parent) in ("sorted", "len")
                self.assertTrue(asked, f"L24 {where}")

    def test_powers(self):
        for where, node in walked():
            if isinstance(node, ast.BinOp) and isinstance(node.op, ast.Pow):
                written = isinstance(node.right, ast.Constant) and 0 <= node.right.value <= 64
                self.assertTrue(written, f"L27 {where}")

    def test_methods_with_two_underscores(self):
        for where, node in walked():
            if isinstance(node, ast.FunctionDef) and node.name == "__init__":
                self.assertFalse(any(isinstance(row, ast.Return) for row in ast.walk(node)), f"L28 {where}")

    def test_locals_bear_no_name_of_an_import_or_a_class(self):
        for name, tree in trees().items():
            taken = {alias.name for row in tree.body if isinstance(row, ast.ImportFrom) for alias in row.names}
            taken |= {row.name for row in tree.body if isinstance(row, ast.ClassDef)}
            rows = [row for row in tree.body if isinstance(row, ast.FunctionDef)]
            for owner in tree.body:
                if isinstance(owner, ast.ClassDef):
                    rows.extend(row for row in owner.body if isinstance(row, ast.FunctionDef))
            for row in rows:
                self.assertEqual((bound_names(row) - {row.name}) & taken, set(), f"L15 {name}:{row.lineno}")

    def test_names(self):
        for name, tree in trees().items():
            bound = bound_names(tree)
            for one in sorted(bound - TWO_UNDERSCORES):
                self.assertRegex(one, r"^[A-Za-z][A-Za-z0-9_]*$", f"L12 {name}")
                self.assertFalse(hasattr(builtins, one) or one in NOT_USED, f"L15, L17 {name} {one}")
            for node in ast.walk(tree):
                if isinstance(node, ast.Name) and isinstance(node.ctx, ast.Load):
                    self.assertIn(node.id, OWN_NAMES | bound, f"L8 {name}:{node.lineno}")

    def test_attributes(self):
        own = set(TWO_UNDERSCORES)
        for where, node in walked():
            if isinstance(node, ast.FunctionDef):
                own.add(node.name)
            if isinstance(node, ast.Attribute) and isinstance(node.ctx, ast.Store):
                own.add(node.attr)
        for where, node in walked():
            if isinstance(node, ast.Attribute):
                self.assertIn(node.attr, METHODS | own, f"L25 {where}")
                self.assertNotIn(node.attr, NOT_USED, f"L17 {where}")


if __name__ == "__main__":
    unittest.main()

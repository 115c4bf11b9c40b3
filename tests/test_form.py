"""Holds the package to those rules of the language that can be seen in the code by itself."""

import ast
import builtins
import pathlib
import re
import unittest

PACKAGE = pathlib.Path(__file__).resolve().parent.parent / "roundmill"

ERRORS = (
    "Exception ValueError TypeError KeyError IndexError LookupError ZeroDivisionError "
    "ArithmeticError OverflowError RuntimeError NotImplementedError AttributeError StopIteration"
).split()
OWN_NAMES = (
    "len range enumerate zip min max sum abs sorted reversed int str bool list tuple dict set "
    "frozenset isinstance ord repr any all divmod"
).split() + ERRORS
DUNDERS = ("__init__", "__eq__", "__repr__", "__str__", "__len__")
WORDS = (
    "type typing typing_extensions enum Enum IntEnum StrEnum Flag IntFlag Generic Protocol ABC "
    "ABCMeta namedtuple NamedTuple TypedDict TYPE_CHECKING abstractmethod"
).split()
PIECES = ("dataclass", "overload", "contextmanager")
UNUSED = (
    "register mro elements open input version_info with_traceback add_note format format_map"
).split()
NODES = (
    ast.Module, ast.FunctionDef, ast.arguments, ast.arg, ast.Lambda, ast.ClassDef, ast.ImportFrom,
    ast.alias, ast.Assign, ast.AugAssign, ast.If, ast.While, ast.For, ast.Return, ast.Break,
    ast.Continue, ast.Pass, ast.Raise, ast.Try, ast.ExceptHandler, ast.Expr, ast.Constant,
    ast.Name, ast.Attribute, ast.Subscript, ast.Slice, ast.List, ast.Tuple, ast.Dict, ast.Set,
    ast.BinOp, ast.UnaryOp, ast.BoolOp, ast.Compare, ast.IfExp, ast.Call, ast.keyword,
    ast.ListComp, ast.comprehension, ast.JoinedStr, ast.FormattedValue,
    ast.operator, ast.unaryop, ast.boolop, ast.cmpop, ast.expr_context,
)
PLAIN = (int, str, bool, type(None))
METHODS = (
    "append clear copy count endswith extend find get index insert isalnum isalpha isdigit islower "
    "isspace isupper items join keys ljust lower lstrip partition pop remove replace reverse rfind "
    "rjust rpartition rsplit rstrip setdefault split splitlines startswith strip update upper "
    "values zfill bit_length"
).split()
CHANGES = "append clear extend insert pop remove reverse setdefault update".split()
WALKED = ("zip", "enumerate", "reversed", "range")
WALKERS = ("list", "tuple", "dict", "sorted", "sum", "any", "all", "enumerate", "zip", "min", "max")


def bound_names(tree):
    """Each name that the file binds, with the line it is bound at."""
    for node in ast.walk(tree):
        if isinstance(node, (ast.FunctionDef, ast.ClassDef)):
            yield node.name, node.lineno
        elif isinstance(node, ast.arg):
            yield node.arg, node.lineno
        elif isinstance(node, ast.Name) and isinstance(node.ctx, ast.Store):
            yield node.id, node.lineno
        elif isinstance(node, ast.Attribute) and isinstance(node.ctx, ast.Store):
            yield node.attr, node.lineno
        elif isinstance(node, ast.ExceptHandler) and node.name:
            yield node.name, node.lineno


def called_name(node):
    """The name that a call calls, be it a function's or a method's."""
    if isinstance(node, ast.Call):
        return getattr(node.func, "id", getattr(node.func, "attr", None))
    return None


def methods_of(node):
    return [row for row in node.body if isinstance(row, ast.FunctionDef)]


def drawn_from(tree):
    return [node.module for node in tree.body if isinstance(node, ast.ImportFrom)]


class Form(unittest.TestCase):
    def setUp(self):
        self.texts = {path: path.read_text("utf-8") for path in sorted(PACKAGE.rglob("*.py"))}
        self.trees = {path: ast.parse(text) for path, text in self.texts.items()}

    def walk(self):
        for path, tree in self.trees.items():
            for node in ast.walk(tree):
                yield f"{path.name}:{getattr(node, 'lineno', 0)}", node

    def test_the_folder_holds_plain_files_alone(self):
        self.assertIn(PACKAGE / "__init__.py", self.texts)
        for path in PACKAGE.rglob("*"):
            if "__pycache__" not in path.parts:
                self.assertRegex(path.name, r"\A(__init__|__main__|[a-z][a-z0-9_]*)\.py\Z")
                self.assertNotIn(path.stem, dir(builtins))

    def test_signs_and_lengths(self):
        for path, text in self.texts.items():
            self.assertRegex(text, r"\A[ -~\n]*\Z", path.name)
            self.assertLessEqual(text.count("\n"), 400, path.name)
            for line in text.split("\n"):
                self.assertLessEqual(len(line), 120, line)
        for place, node in self.walk():
            if isinstance(node, ast.FunctionDef):
                self.assertLessEqual(node.end_lineno - node.lineno + 1, 40, place)

    def test_words_that_stand_nowhere(self):
        for path, text in self.texts.items():
            found = re.findall(r"\w+", text)
            self.assertEqual([word for word in found if word in WORDS], [], path.name)
            self.assertEqual([piece for piece in PIECES if piece in text], [], path.name)

    def test_statements_and_expressions(self):
        for place, node in self.walk():
            self.assertIsInstance(node, NODES, place)
            if isinstance(node, ast.Constant):
                self.assertIsInstance(node.value, PLAIN, place)
                self.assertFalse(isinstance(node.value, str) and "%" in node.value, place)
            if isinstance(node, (ast.For, ast.While)):
                self.assertEqual(node.orelse, [], place)
            if isinstance(node, ast.Try):
                self.assertEqual(node.finalbody, [], place)
            if isinstance(node, ast.ExceptHandler):
                self.assertIsNotNone(node.type, place)
            if isinstance(node, ast.ListComp):
                self.assertEqual(len(node.generators), 1, place)
                self.assertLessEqual(len(node.generators[0].ifs), 1, place)
            if isinstance(node, ast.Assign):
                self.assertEqual(len(node.targets), 1, place)
                self.assertNotIsInstance(node.targets[0], (ast.Tuple, ast.List), place)
            if isinstance(node, (ast.FunctionDef, ast.ClassDef)):
                self.assertEqual(node.decorator_list, [], place)

    def test_operators(self):
        for place, node in self.walk():
            self.assertNotIsInstance(node, (ast.Div, ast.MatMult), place)
            if isinstance(node, (ast.BinOp, ast.AugAssign)) and isinstance(node.op, ast.Pow):
                power = getattr(node, "right", getattr(node, "value", None))
                self.assertIsInstance(power, ast.Constant, place)
                self.assertIn(power.value, range(65), place)
            if isinstance(node, ast.Compare):
                for sign, right in zip(node.ops, node.comparators):
                    if isinstance(sign, (ast.Is, ast.IsNot)):
                        self.assertIsInstance(right, ast.Constant, place)

    def test_parameters(self):
        for place, node in self.walk():
            if isinstance(node, ast.arguments):
                self.assertIsNone(node.vararg, place)
                self.assertIsNone(node.kwarg, place)
                self.assertEqual(node.kwonlyargs + node.posonlyargs, [], place)

    def test_names(self):
        for path, tree in self.trees.items():
            for name, line in bound_names(tree):
                place = f"{path.name}:{line}"
                self.assertTrue(name in DUNDERS or re.match(r"[A-Za-z]", name), place)
                self.assertNotIn(name, UNUSED, place)
        for place, node in self.walk():
            if isinstance(node, ast.Name):
                self.assertTrue(node.id in OWN_NAMES or node.id not in dir(builtins), place)
                if isinstance(node.ctx, ast.Store):
                    self.assertNotIn(node.id, dir(builtins), place)
            if isinstance(node, ast.arg):
                self.assertNotIn(node.arg, dir(builtins), place)
            if isinstance(node, ast.Attribute):
                self.assertNotIn(node.attr, UNUSED, place)

    def test_locals_are_not_called_like_imports_or_classes(self):
        for path, tree in self.trees.items():
            taken = [name.name for node in tree.body if isinstance(node, ast.ImportFrom)
                     for name in node.names]
            taken += [node.name for node in tree.body if isinstance(node, ast.ClassDef)]
            for node in ast.walk(tree):
                name = node.arg if isinstance(node, ast.arg) else None
                if isinstance(node, ast.Name) and isinstance(node.ctx, ast.Store):
                    name = node.id
                self.assertNotIn(name, taken, path.name)

    def test_imports(self):
        for path, tree in self.trees.items():
            for node in ast.walk(tree):
                if isinstance(node, ast.ImportFrom):
                    place = f"{path.name}:{node.lineno}"
                    self.assertIn(node, tree.body, place)
                    self.assertEqual(node.level, 0, place)
                    self.assertRegex(node.module, r"\Aroundmill\.[a-z]\w*\Z", place)
                    self.defines(node)

    def defines(self, row):
        source = self.trees[PACKAGE / (row.module.split(".")[1] + ".py")]
        names = [node.name for node in source.body
                 if isinstance(node, (ast.FunctionDef, ast.ClassDef))]
        names += [node.targets[0].id for node in source.body if isinstance(node, ast.Assign)]
        for name in row.names:
            self.assertIn(name.name, names)
            self.assertIsNone(name.asname)

    def test_no_two_files_draw_from_one_another(self):
        left = {f"roundmill.{path.stem}": drawn_from(tree) for path, tree in self.trees.items()}
        while left:
            free = [name for name in left if not set(left[name]) & set(left)]
            self.assertNotEqual(free, [], f"drawn in a ring: {sorted(left)}")
            left = {name: left[name] for name in left if name not in free}

    def test_the_top_of_a_file(self):
        for path, tree in self.trees.items():
            self.assertIsNotNone(ast.get_docstring(tree), path.name)
            kinds = (ast.ImportFrom, ast.FunctionDef, ast.ClassDef, ast.Assign)
            names = []
            for node in tree.body[1:]:
                self.assertIsInstance(node, kinds, f"{path.name}:{node.lineno}")
                names.append(getattr(node, "name", None) or ast.dump(node))
            self.assertEqual(len(names), len(set(names)), path.name)

    def test_values_of_the_top_are_plain(self):
        for path, tree in self.trees.items():
            defined = []
            for node in tree.body:
                if isinstance(node, ast.FunctionDef):
                    defined.append(node.name)
                if isinstance(node, ast.Assign):
                    self.plain(node.value, defined, f"{path.name}:{node.lineno}")

    def plain(self, value, defined, place, within=False):
        if isinstance(value, (ast.List, ast.Dict)):
            self.assertFalse(within, place)
        else:
            self.assertIsInstance(value, (ast.Tuple, ast.Constant, ast.Name), place)
        if isinstance(value, ast.Name):
            self.assertIn(value.id, defined, place)
        parts = getattr(value, "elts", []) + getattr(value, "keys", []) + getattr(value, "values", [])
        for part in parts:
            self.plain(part, defined, place, True)

    def test_lists_and_dicts_of_the_top_are_only_read(self):
        for path, tree in self.trees.items():
            kept = [node.targets[0].id for node in tree.body
                    if isinstance(node, ast.Assign) and isinstance(node.value, (ast.List, ast.Dict))]
            for node in ast.walk(tree):
                place = f"{path.name}:{getattr(node, 'lineno', 0)}"
                if isinstance(node, ast.Subscript) and isinstance(node.ctx, ast.Store):
                    self.assertNotIn(getattr(node.value, "id", None), kept, place)
                if isinstance(node, ast.Attribute) and node.attr in CHANGES:
                    self.assertNotIn(getattr(node.value, "id", None), kept, place)
                if isinstance(node, ast.Return):
                    self.assertNotIn(getattr(node.value, "id", None), kept, place)

    def test_a_name_is_a_method_or_a_value_in_all_classes(self):
        methods, values = set(), set()
        for place, node in self.walk():
            if isinstance(node, ast.ClassDef):
                names = [row.name for row in methods_of(node)]
                self.assertEqual(len(names), len(set(names)), place)
                methods.update(names)
                self.assertLessEqual(len(node.bases), 1, place)
                for row in node.body:
                    self.assertIsInstance(row, (ast.FunctionDef, ast.Pass), place)
            if isinstance(node, ast.Attribute) and isinstance(node.ctx, ast.Store):
                values.add(node.attr)
        self.assertEqual(methods & values, set())

    def test_methods_that_are_called(self):
        own = [row.name for place, node in self.walk() if isinstance(node, ast.ClassDef)
               for row in methods_of(node)]
        for place, node in self.walk():
            if isinstance(node, ast.Call) and isinstance(node.func, ast.Attribute):
                self.assertIn(node.func.attr, METHODS + own, place)

    def test_handlers_name_the_program_s_own_errors(self):
        own = [node.name for place, node in self.walk() if isinstance(node, ast.ClassDef)]
        for place, node in self.walk():
            if isinstance(node, ast.ExceptHandler):
                self.assertIsInstance(node.type, ast.Name, place)
                self.assertIn(node.type.id, own + ["KeyError", "ZeroDivisionError"], place)
            if isinstance(node, ast.Raise):
                self.assertIsInstance(node.exc, ast.Call, place)

    def test_walked_at_once(self):
        for path, tree in self.trees.items():
            walked = set()
            for node in ast.walk(tree):
                if isinstance(node, (ast.For, ast.comprehension)):
                    walked.add(node.iter)
                if called_name(node) in WALKERS + ("join",) and node.args:
                    walked.add(node.args[0])
            for node in ast.walk(tree):
                if called_name(node) in WALKED + ("items", "keys", "values"):
                    self.assertIn(node, walked, f"{path.name}:{node.lineno}")

    def test_no_docstrings_and_no_annotations_within(self):
        for place, node in self.walk():
            if isinstance(node, ast.Expr) and isinstance(node.value, ast.Constant):
                self.assertEqual(node.lineno, 1, place)
            if isinstance(node, ast.FunctionDef):
                self.assertIsNone(node.returns, place)
            if isinstance(node, ast.arg):
                self.assertIsNone(node.annotation, place)


if __name__ == "__main__":
    unittest.main()

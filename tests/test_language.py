"""The rules of LANGUAGE.md that can be seen in a file's text or tree, looked for in the package's files."""

import ast
import builtins
import pathlib
import re
import unittest

PACKAGE = pathlib.Path(__file__).resolve().parent.parent / "bankshare"

BUILT_IN = set(
    "len range enumerate zip min max sum abs sorted reversed int str bool list tuple dict set frozenset isinstance "
    "ord repr any all divmod Exception ValueError TypeError KeyError IndexError LookupError ZeroDivisionError "
    "ArithmeticError OverflowError RuntimeError NotImplementedError AttributeError StopIteration".split()
)
METHODS = set(
    "append clear copy count endswith extend find get index insert isalnum isalpha isdigit islower isspace isupper "
    "items join keys ljust lower lstrip partition pop remove replace reverse rfind rjust rpartition rsplit rstrip "
    "setdefault split splitlines startswith strip update upper values zfill bit_length __init__".split()
)
OF_VALUES = {name for kind in (str, int, list, tuple, dict, set, bytes, float) for name in dir(kind)}
NODES = (
    ast.Module, ast.FunctionDef, ast.ClassDef, ast.Return, ast.Assign, ast.AugAssign, ast.For, ast.While, ast.If,
    ast.Raise, ast.Try, ast.ExceptHandler, ast.ImportFrom, ast.Expr, ast.Pass, ast.Break, ast.Continue, ast.alias,
    ast.BoolOp, ast.BinOp, ast.UnaryOp, ast.Lambda, ast.IfExp, ast.Dict, ast.Set, ast.ListComp, ast.comprehension,
    ast.Compare, ast.Call, ast.keyword, ast.FormattedValue, ast.JoinedStr, ast.Constant, ast.Attribute,
    ast.Subscript, ast.Name, ast.List, ast.Tuple, ast.Slice, ast.arguments, ast.arg, ast.expr_context,
    ast.boolop, ast.operator, ast.unaryop, ast.cmpop,
)
WORDS = re.compile(
    r"\b(type|typing|typing_extensions|enum|Enum|IntEnum|StrEnum|Flag|IntFlag|Generic|Protocol|ABC|ABCMeta|namedtuple"
    r"|NamedTuple|TypedDict|TYPE_CHECKING|abstractmethod)\b|dataclass|overload|contextmanager"
)
NOT_NAMES = set(
    "register mro elements open input version_info with_traceback add_note format format_map attrgetter breakpoint "
    "builtins compile copyright credits delattr dir eval exec exit gc getattr globals hasattr help id importlib "
    "license locals methodcaller os quit setattr super type vars sys chr print".split()
)


def sources():
    return sorted(PACKAGE.glob("*.py"))


def bound_names(node):
    if isinstance(node, (ast.FunctionDef, ast.ClassDef)):
        return [node.name]
    if isinstance(node, ast.arg):
        return [node.arg]
    if isinstance(node, ast.Name) and isinstance(node.ctx, ast.Store):
        return [node.id]
    return []


class Language(unittest.TestCase):
    def each_node(self):
        for path in sources():
            for node in ast.walk(ast.parse(path.read_text(encoding="utf-8"))):
                yield f"{path.name}:{getattr(node, 'lineno', 0)}", node

    def test_only_plain_files(self):
        names = [path.name for path in PACKAGE.iterdir() if path.name != "__pycache__"]
        self.assertIn("__init__.py", names)
        for name in names:
            self.assertRegex(name, r"\A([a-z][a-z0-9_]*|__init__)\.py\Z")

    def test_signs_and_sizes(self):
        for path in sources():
            text = path.read_text(encoding="utf-8")
            self.assertRegex(text, r"\A[ -~\n]*\Z", path.name)
            self.assertLessEqual(len(text.splitlines()), 400, path.name)
            self.assertLessEqual(max(len(line) for line in text.splitlines()), 120, path.name)

    def test_words_that_stand_nowhere(self):
        for path in sources():
            self.assertIsNone(WORDS.search(path.read_text(encoding="utf-8")), path.name)

    def test_statements_and_expressions(self):
        for where, node in self.each_node():
            self.assertIsInstance(node, NODES, where)
            self.assertNotIsInstance(node, (ast.Div, ast.MatMult), where)
            if isinstance(node, ast.Constant):
                self.assertNotIsInstance(node.value, (float, complex, bytes), where)
                self.assertFalse(isinstance(node.value, str) and "%" in node.value, where)
            if isinstance(node, ast.Assign):
                self.assertEqual(len(node.targets), 1, where)
            if isinstance(node, (ast.For, ast.While)):
                self.assertEqual(node.orelse, [], where)
            if isinstance(node, ast.Try):
                self.assertEqual(node.finalbody, [], where)

    def test_functions_and_classes(self):
        for where, node in self.each_node():
            if isinstance(node, ast.FunctionDef):
                self.assertLessEqual(node.end_lineno - node.lineno + 1, 40, where)
                self.assertEqual(node.decorator_list, [], where)
                asked = node.args
                self.assertEqual((asked.vararg, asked.kwarg, asked.kwonlyargs, asked.posonlyargs), (None, None, [], []))
            if isinstance(node, ast.ClassDef):
                self.assertEqual((node.decorator_list, node.keywords), ([], []), where)
                self.assertLessEqual(len(node.bases), 1, where)
                for inner in node.body:
                    self.assertIsInstance(inner, (ast.FunctionDef, ast.Pass), where)

    def test_imports(self):
        for where, node in self.each_node():
            if isinstance(node, ast.ImportFrom):
                self.assertEqual(node.level, 0, where)
                self.assertRegex(node.module, r"\Abankshare\.[a-z]+\Z", where)
                self.assertNotIn("*", [name.name for name in node.names], where)

    def test_names(self):
        for where, node in self.each_node():
            for name in bound_names(node):
                self.assertRegex(name, r"\A([A-Za-z][A-Za-z0-9_]*|__init__)\Z", where)
                self.assertNotIn(name, dir(builtins), where)
            if isinstance(node, ast.Name):
                self.assertNotIn(node.id, NOT_NAMES, where)
                self.assertFalse(node.id in dir(builtins) and node.id not in BUILT_IN, where)
            if isinstance(node, ast.Attribute):
                self.assertNotIn(node.attr, NOT_NAMES, where)
                self.assertFalse(node.attr in OF_VALUES and node.attr not in METHODS, where)

    def test_is_stands_beside_none_true_and_false_alone(self):
        for where, node in self.each_node():
            if isinstance(node, ast.Compare):
                for sign, right in zip(node.ops, node.comparators):
                    if isinstance(sign, (ast.Is, ast.IsNot)):
                        self.assertIsInstance(right, ast.Constant, where)
                        self.assertIn(right.value, (None, True, False), where)

    def test_comprehensions_and_written_texts(self):
        for where, node in self.each_node():
            if isinstance(node, ast.ListComp):
                self.assertEqual(len(node.generators), 1, where)
                self.assertLessEqual(len(node.generators[0].ifs), 1, where)
            if isinstance(node, ast.FormattedValue):
                self.assertIsInstance(node.value, ast.Name, where)
                self.assertIn(node.conversion, (-1, ord("r")), where)
                self.assertIsNone(node.format_spec, where)

    def test_the_top_of_a_file(self):
        for path in sources():
            body = ast.parse(path.read_text(encoding="utf-8")).body
            self.assertIsInstance(body[0].value.value, str, path.name)
            for node in body[1:]:
                self.assertIsInstance(node, (ast.ImportFrom, ast.FunctionDef, ast.ClassDef, ast.Assign), path.name)

    def test_a_statement_that_is_a_value_is_a_call(self):
        for path in sources():
            tree = ast.parse(path.read_text(encoding="utf-8"))
            for node in ast.walk(tree):
                if isinstance(node, ast.Expr) and node is not tree.body[0]:
                    self.assertIsInstance(node.value, ast.Call, f"{path.name}:{node.lineno}")

    def test_sets_stand_within_sorted_and_len_alone(self):
        for path in sources():
            tree = ast.parse(path.read_text(encoding="utf-8"))
            calls = [node for node in ast.walk(tree) if isinstance(node, ast.Call) and isinstance(node.func, ast.Name)]
            within = [call.args[0] for call in calls if call.func.id in ("sorted", "len")]
            for call in calls:
                if call.func.id in ("set", "frozenset"):
                    self.assertIn(call, within, f"{path.name}:{call.lineno}")

    def test_no_local_is_called_like_a_class_or_an_import(self):
        for path in sources():
            tree = ast.parse(path.read_text(encoding="utf-8"))
            taken = [name.name for node in tree.body if isinstance(node, ast.ImportFrom) for name in node.names]
            taken = taken + [node.name for node in tree.body if isinstance(node, ast.ClassDef)]
            for node in ast.walk(tree):
                if isinstance(node, (ast.Name, ast.arg)):
                    for name in bound_names(node):
                        self.assertNotIn(name, taken, f"{path.name}:{node.lineno}")

    def test_no_two_files_draw_from_one_another(self):
        drawn = {}
        for path in sources():
            tree = ast.parse(path.read_text(encoding="utf-8"))
            drawn[path.stem] = {node.module.split(".")[-1] for node in tree.body if isinstance(node, ast.ImportFrom)}
        while drawn:
            free = [name for name in drawn if not drawn[name] & set(drawn)]
            self.assertNotEqual(free, [], drawn)
            drawn = {name: drawn[name] for name in drawn if name not in free}


if __name__ == "__main__":
    unittest.main()

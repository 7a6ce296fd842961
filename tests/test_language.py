"""The rules of the language part that can be seen in the package's files one by one."""

import ast
import builtins
import re
import unittest
from pathlib import Path

import pairrounds

FOLDER = Path(pairrounds.__file__).parent

STATEMENTS = (
    ast.Module, ast.FunctionDef, ast.ClassDef, ast.ImportFrom, ast.alias, ast.Assign, ast.AugAssign, ast.If, ast.While,
    ast.For, ast.Return, ast.Break, ast.Continue, ast.Pass, ast.Raise, ast.Try, ast.ExceptHandler, ast.Expr,
)
EXPRESSIONS = (
    ast.Constant, ast.List, ast.Tuple, ast.Dict, ast.BinOp, ast.UnaryOp, ast.BoolOp, ast.Compare, ast.IfExp, ast.Call,
    ast.Attribute, ast.Subscript, ast.Slice, ast.ListComp, ast.comprehension, ast.Name, ast.arguments, ast.arg,
    ast.JoinedStr, ast.FormattedValue, ast.Lambda, ast.keyword, ast.operator, ast.unaryop, ast.boolop, ast.cmpop,
    ast.expr_context,
)
OWN_NAMES = (
    "len range enumerate zip min max sum abs sorted reversed int str bool list tuple dict set frozenset isinstance ord "
    "repr any all divmod Exception ValueError KeyError IndexError LookupError ZeroDivisionError"
).split()
OWN_METHODS = (
    "append clear copy count endswith extend find get index insert isalnum isalpha isdigit islower isspace isupper items "
    "join keys ljust lower lstrip partition pop remove replace reverse rfind rjust rpartition rsplit rstrip setdefault "
    "split splitlines startswith strip update upper values zfill bit_length"
).split()
WORDS = re.compile(
    r"\b(type|typing|typing_extensions|enum|Enum|IntEnum|StrEnum|Flag|IntFlag|Generic|Protocol|ABC|ABCMeta|namedtuple"
    r"|NamedTuple|TypedDict|TYPE_CHECKING|abstractmethod)\b|dataclass|overload|contextmanager"
)


def bound_names(tree):
    """Every name that the file gives a meaning itself, but methods and values of objects."""
    found = []
    for node in ast.walk(tree):
        if isinstance(node, ast.arg):
            found.append(node.arg)
        if isinstance(node, ast.Name) and isinstance(node.ctx, ast.Store):
            found.append(node.id)
        if isinstance(node, ast.alias):
            found.append(node.asname or node.name)
    return found + [node.name for node in tree.body if isinstance(node, (ast.FunctionDef, ast.ClassDef))]


class Language(unittest.TestCase):
    def setUp(self):
        self.files = sorted(path for path in FOLDER.iterdir() if path.name != "__pycache__")
        self.texts = {path.name: path.read_bytes().decode("ascii") for path in self.files}
        self.trees = {name: ast.parse(text) for name, text in self.texts.items()}

    def nodes(self):
        return [(name, node) for name, tree in self.trees.items() for node in ast.walk(tree)]

    def test_files_and_signs(self):
        for name, text in self.texts.items():
            self.assertRegex(name, r"^(__init__|[a-z][a-z0-9_]*)\.py$")
            self.assertNotIn(name[:-3], dir(builtins))
            self.assertRegex(text, r"^[ -~\n]*\Z", name)
            self.assertIsNone(WORDS.search(text), name)

    def test_size(self):
        for name, text in self.texts.items():
            lines = text.split("\n")
            self.assertLessEqual(len(lines), 400, name)
            self.assertLessEqual(max(len(line) for line in lines), 120, name)
        for name, node in self.nodes():
            if isinstance(node, ast.FunctionDef):
                self.assertLessEqual(node.end_lineno - node.lineno + 1, 40, (name, node.name))

    def test_statements_and_expressions(self):
        for name, node in self.nodes():
            at = (name, getattr(node, "lineno", 0), ast.dump(node)[:60])
            self.assertIsInstance(node, STATEMENTS + EXPRESSIONS, at)
            self.assertNotIsInstance(node, (ast.Div, ast.MatMult), at)
            if isinstance(node, ast.Assign):
                self.assertEqual([isinstance(t, (ast.Name, ast.Attribute, ast.Subscript)) for t in node.targets], [True], at)
            if isinstance(node, (ast.For, ast.While)):
                self.assertEqual(node.orelse, [], at)
            if isinstance(node, ast.ListComp):
                self.assertEqual(len(node.generators), 1, at)
                self.assertLessEqual(len(node.generators[0].ifs), 1, at)
            if isinstance(node, ast.FunctionDef):
                self.assertEqual((node.decorator_list, node.args.vararg, node.args.kwarg), ([], None, None), at)

    def test_imports(self):
        for name, node in self.nodes():
            if isinstance(node, ast.ImportFrom):
                self.assertEqual(node.level, 0, name)
                self.assertTrue(node.module.startswith("pairrounds."), name)
                drawn = self.trees[node.module.split(".")[1] + ".py"]
                for alias in node.names:
                    stored = [n for n in drawn.body if isinstance(n, (ast.FunctionDef, ast.ClassDef, ast.Assign))]
                    names = [n.targets[0].id if isinstance(n, ast.Assign) else n.name for n in stored]
                    self.assertIn(alias.name, names, name)

    def test_names(self):
        for name, tree in self.trees.items():
            bound = bound_names(tree)
            for own in bound:
                self.assertRegex(own, r"^[A-Za-z][A-Za-z0-9_]*$", name)
                self.assertNotIn(own, dir(builtins), name)
            for node in ast.walk(tree):
                if isinstance(node, ast.Name) and isinstance(node.ctx, ast.Load):
                    self.assertIn(node.id, bound + OWN_NAMES, (name, node.lineno))

    def test_methods(self):
        own = []
        for name, node in self.nodes():
            if isinstance(node, ast.ClassDef):
                own += [part.name for part in node.body if isinstance(part, ast.FunctionDef)]
        values = [n.attr for name, n in self.nodes() if isinstance(n, ast.Attribute) and isinstance(n.ctx, ast.Store)]
        self.assertEqual(set(own) & set(values), set())
        for name, node in self.nodes():
            if isinstance(node, ast.Attribute):
                self.assertIn(node.attr, own + values + OWN_METHODS, (name, node.lineno))

    def test_sets_are_not_kept(self):
        for name, tree in self.trees.items():
            above = {child: node for node in ast.walk(tree) for child in ast.iter_child_nodes(node)}
            for node in ast.walk(tree):
                if isinstance(node, ast.Call) and isinstance(node.func, ast.Name) and node.func.id in ("set", "frozenset"):
                    around = above[node]
                    while isinstance(around, ast.BinOp):
                        around = above[around]
                    if not isinstance(around, ast.Compare):
                        self.assertIsInstance(around, ast.Call, (name, node.lineno))
                        self.assertIn(ast.unparse(around.func), ("len", "sorted"), (name, node.lineno))

    def test_tops_hold_plain_values(self):
        for name, tree in self.trees.items():
            functions = [node.name for node in tree.body if isinstance(node, ast.FunctionDef)]
            for node in tree.body:
                if isinstance(node, ast.Assign):
                    for part in ast.walk(node.value):
                        self.assertNotIsInstance(part, (ast.Call, ast.ListComp, ast.List, ast.Dict), (name, node.lineno))
                        if isinstance(part, ast.Name):
                            self.assertIn(part.id, functions, (name, node.lineno))

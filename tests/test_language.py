"""What ../shared/LANGUAGE.md asks of the package's files, as far as it can be seen file by file."""

import ast
import builtins
import pathlib
import re
import unittest

PACKAGE = pathlib.Path(__file__).resolve().parent.parent / "ordertext"

BUILTINS = set(
    "len range enumerate zip min max sum abs sorted reversed int str bool list tuple dict set frozenset isinstance ord "
    "repr any all divmod Exception ValueError TypeError KeyError IndexError LookupError ZeroDivisionError "
    "ArithmeticError OverflowError RuntimeError NotImplementedError AttributeError StopIteration".split()
)
METHODS = set(
    "append clear copy count endswith extend find get index insert isalnum isalpha isdigit islower isspace isupper "
    "items join keys ljust lower lstrip partition pop remove replace reverse rfind rjust rpartition rsplit rstrip "
    "setdefault split splitlines startswith strip update upper values zfill bit_length".split()
)
PYTHONS_OWN = {name for kind in (str, int, list, dict, set, bytes, tuple) for name in dir(kind)}
UNUSED_NAMES = set(
    "register mro elements open input version_info with_traceback add_note attrgetter breakpoint builtins compile "
    "copyright credits delattr dir eval exec exit gc getattr globals hasattr help id importlib license locals "
    "methodcaller os quit setattr super type vars sys".split()
)
UNUSED_WORDS = re.compile(
    r"\b(type|typing|typing_extensions|enum|Enum|IntEnum|StrEnum|Flag|IntFlag|Generic|Protocol|ABC|ABCMeta|namedtuple"
    r"|NamedTuple|TypedDict|TYPE_CHECKING|abstractmethod)\b|dataclass|overload|contextmanager"
)
NODES = (
    ast.Module, ast.ImportFrom, ast.alias, ast.FunctionDef, ast.arguments, ast.arg, ast.ClassDef, ast.Assign,
    ast.AugAssign, ast.If, ast.While, ast.For, ast.Return, ast.Break, ast.Continue, ast.Pass, ast.Raise, ast.Try,
    ast.ExceptHandler, ast.Expr, ast.Constant, ast.List, ast.Tuple, ast.Dict, ast.Set, ast.BinOp, ast.UnaryOp,
    ast.BoolOp, ast.Compare, ast.IfExp, ast.Call, ast.keyword, ast.Attribute, ast.Subscript, ast.Slice, ast.ListComp,
    ast.comprehension, ast.JoinedStr, ast.FormattedValue, ast.Lambda, ast.Name, ast.expr_context, ast.operator,
    ast.unaryop, ast.boolop, ast.cmpop,
)
WALKED_ONLY = ("zip", "enumerate", "reversed", "range", "items", "keys", "values")
WALKERS = ("list", "tuple", "dict", "sorted", "sum", "any", "all", "enumerate", "zip", "min", "max", "join")


def package_files():
    return sorted(path for path in PACKAGE.rglob("*") if path.is_file() and "__pycache__" not in path.parts)


def called(node):
    if not isinstance(node, ast.Call):
        return None
    return node.func.id if isinstance(node.func, ast.Name) else getattr(node.func, "attr", None)


class Faults:
    def __init__(self, path):
        self.path = path
        self.text = path.read_text(encoding="utf-8")
        self.tree = ast.parse(self.text)
        self.found = []
        self.above = {}
        for node in ast.walk(self.tree):
            for child in ast.iter_child_nodes(node):
                self.above[child] = node

    def say(self, rule, line, words):
        self.found.append(f"{rule} {self.path.relative_to(PACKAGE.parent)}:{line} {words}")

    def all(self):
        self.rows()
        self.top()
        for node in ast.walk(self.tree):
            line = getattr(node, "lineno", 0)
            if not isinstance(node, NODES):
                self.say("L6/L7", line, node.__class__.__name__)
            check = getattr(self, "on_" + node.__class__.__name__, None)
            if check is not None:
                check(node, line)
        return self.found

    def rows(self):
        rows = self.text.split("\n")
        if len(rows) > 401:
            self.say("L10", len(rows), "long file")
        for number, row in enumerate(rows, start=1):
            if len(row) > 120:
                self.say("L10", number, "long line")
            if any(not " " <= sign <= "~" for sign in row):
                self.say("L14", number, "sign")
            if UNUSED_WORDS.search(row):
                self.say("L17", number, "word")

    def top(self):
        bound = []
        for place, node in enumerate(self.tree.body):
            if isinstance(node, ast.Expr) and not (place == 0 and isinstance(node.value, ast.Constant)):
                self.say("L3", node.lineno, "something done")
            if isinstance(node, ast.Assign):
                bound.append(node.targets[0].id)
                for part in ast.walk(node.value):
                    if part is not node.value and isinstance(part, (ast.List, ast.Dict)):
                        self.say("L15", node.lineno, "a list or dict within")
                    if isinstance(part, (ast.Call, ast.BinOp, ast.ListComp, ast.Set)):
                        self.say("L3", node.lineno, "no plain value")
            elif isinstance(node, ast.ImportFrom):
                bound += [part.name for part in node.names]
            elif isinstance(node, (ast.FunctionDef, ast.ClassDef)):
                bound.append(node.name)
            elif not isinstance(node, ast.Expr):
                self.say("L3", node.lineno, "statement at the top")
        if len(set(bound)) != len(bound):
            self.say("L15", 0, "bound twice")

    def on_ImportFrom(self, node, line):
        if node.level or not (node.module or "").startswith("ordertext") or node not in self.tree.body:
            self.say("L2", line, "import")
        source = PACKAGE.parent.joinpath(*node.module.split(".")).with_suffix(".py")
        defined = source.read_text(encoding="utf-8") if source.exists() else ""
        for part in node.names:
            if part.asname or not re.search(rf"^(def |class |){part.name}\b", defined, re.M):
                self.say("L16", line, part.name)

    def on_FunctionDef(self, node, line):
        if node.end_lineno - line + 1 > 40:
            self.say("L10", line, "long function")
        if node.decorator_list or node.returns:
            self.say("L4/L21", line, "decorator or annotation")
        self.named(node.name, line, ("__init__", "__eq__", "__repr__", "__str__", "__len__"))

    def on_arguments(self, node, line):
        if node.vararg or node.kwarg or node.kwonlyargs or node.posonlyargs:
            self.say("L4", line, "stars")

    def on_arg(self, node, line):
        self.bound(node.arg, line)
        if node.annotation:
            self.say("L21", node.lineno, "annotation")

    def on_ClassDef(self, node, line):
        if len(node.bases) > 1 or node.keywords or node.decorator_list or node not in self.tree.body:
            self.say("L5", line, node.name)
        if not all(isinstance(part, (ast.FunctionDef, ast.Pass)) for part in node.body):
            self.say("L5", line, "class body")
        self.named(node.name, line)

    def on_Assign(self, node, line):
        if len(node.targets) > 1 or isinstance(node.targets[0], (ast.Tuple, ast.List)):
            self.say("L6", line, "targets")

    def on_For(self, node, line):
        if node.orelse:
            self.say("L6", line, "else behind a loop")
        walked = ast.dump(node.iter)
        for part in ast.walk(node):
            if isinstance(part, ast.Call) and called(part) in ("append", "pop", "insert", "extend", "remove", "clear"):
                if ast.dump(part.func.value) == walked:
                    self.say("L23", part.lineno, "changes what is walked")

    def on_While(self, node, line):
        if node.orelse:
            self.say("L6", line, "else behind a loop")

    def on_Try(self, node, line):
        if node.finalbody or any(handler.name == "" or handler.type is None for handler in node.handlers):
            self.say("L6", line, "try")

    def on_ExceptHandler(self, node, line):
        if node.type is not None and ast.unparse(node.type) in ("Exception", "TypeError"):
            self.say("L19", line, "except")

    def on_Expr(self, node, line):
        docstring = node is self.tree.body[0]
        if not docstring and not isinstance(node.value, ast.Call):
            self.say("L6", line, "no call by itself")

    def on_Constant(self, node, line):
        if isinstance(node.value, (float, complex, bytes)) or node.value is Ellipsis:
            self.say("L7", line, repr(node.value))
        if isinstance(node.value, str) and "%" in node.value:
            self.say("L27", line, "sign in a text")

    def on_BinOp(self, node, line):
        if isinstance(node.op, (ast.Div, ast.MatMult)):
            self.say("L7", line, "operator")
        if isinstance(node.op, ast.Pow) and not isinstance(node.right, ast.Constant):
            self.say("L27", line, "power")

    def on_Compare(self, node, line):
        for how, right in zip(node.ops, node.comparators):
            if isinstance(how, (ast.Is, ast.IsNot)) and not isinstance(right, ast.Constant):
                self.say("L20", line, "is")

    def on_ListComp(self, node, line):
        if len(node.generators) > 1 or len(node.generators[0].ifs) > 1 or node.generators[0].is_async:
            self.say("L7", line, "comprehension")

    def on_FormattedValue(self, node, line):
        if not isinstance(node.value, ast.Name) or node.format_spec or node.conversion not in (-1, ord("r")):
            self.say("L7", line, "f-string")

    def on_Name(self, node, line):
        if isinstance(node.ctx, ast.Store):
            self.bound(node.id, line)
        elif hasattr(builtins, node.id) and node.id not in BUILTINS:
            self.say("L8", line, node.id)
        if node.id in UNUSED_NAMES:
            self.say("L17", line, node.id)

    def on_Attribute(self, node, line):
        if node.attr in UNUSED_NAMES & {"register", "mro", "elements", "open", "input", "with_traceback", "add_note"}:
            self.say("L17", line, node.attr)
        if node.attr in PYTHONS_OWN and node.attr not in METHODS and node.attr != "__init__":
            self.say("L25/L26", line, node.attr)
        if node.attr in METHODS and called(self.above[node]) != node.attr:
            self.say("L25", line, node.attr + " is not called where it stands")
        self.named(node.attr, line, ("__init__",))

    def on_Call(self, node, line):
        name = called(node)
        above = self.above[node]
        walked = isinstance(above, (ast.For, ast.comprehension)) and above.iter is node
        if name in WALKED_ONLY and not walked and called(above) not in WALKERS:
            self.say("L23", line, name)
        if name == "set" and not isinstance(above, (ast.Compare, ast.BinOp)) and called(above) not in ("sorted", "len"):
            self.say("L24", line, "a set is kept")
        if name in BUILTINS | METHODS:
            for keyword in node.keywords:
                if keyword.arg not in ("key", "reverse", "default", "start", "strict"):
                    self.say("L22", line, "keyword")

    def bound(self, name, line):
        self.named(name, line)
        if hasattr(builtins, name):
            self.say("L15", line, name)
        defined = [part.name for part in self.tree.body if isinstance(part, ast.ClassDef)]
        for part in self.tree.body:
            if isinstance(part, ast.ImportFrom):
                defined += [alias.name for alias in part.names]
        if name in defined:
            self.say("L15", line, name)

    def named(self, name, line, besides=()):
        if name.startswith("_") and name not in besides:
            self.say("L12", line, name)


def members():
    methods, values = set(), set()
    for path in package_files():
        for node in ast.walk(ast.parse(path.read_text(encoding="utf-8"))):
            if isinstance(node, ast.ClassDef):
                methods |= {part.name for part in node.body if isinstance(part, ast.FunctionDef)}
            if isinstance(node, ast.Attribute) and isinstance(node.ctx, ast.Store):
                values.add(node.attr)
    return methods, values


def drawn(path):
    """The files that a file draws from: their own and each __init__.py above them."""
    names = set()
    for node in ast.walk(ast.parse(path.read_text(encoding="utf-8"))):
        if isinstance(node, ast.ImportFrom):
            parts = node.module.split(".")
            names.add(PACKAGE.parent.joinpath(*parts).with_suffix(".py"))
            names |= {PACKAGE.parent.joinpath(*parts[:many]) / "__init__.py" for many in range(1, len(parts))}
    return names


class LanguageTest(unittest.TestCase):
    def test_files(self):
        for path in package_files():
            with self.subTest(path=path):
                self.assertRegex(path.name, r"\A([a-z][a-z0-9_]*|__init__|__main__)\.py\Z")
                self.assertFalse(path.stem in dir(builtins) and not path.stem.startswith("__"))
                self.assertTrue((path.parent / "__init__.py").exists())

    def test_each_file(self):
        for path in package_files():
            with self.subTest(path=path):
                self.assertEqual(Faults(path).all(), [])

    def test_no_name_is_a_method_and_a_value(self):
        methods, values = members()
        self.assertEqual(methods & values, set())

    def test_no_two_files_draw_from_one_another(self):
        reached = {path: drawn(path) for path in package_files()}
        for step in reached:
            for path in reached:
                if step in reached[path]:
                    reached[path] = reached[path] | reached[step]
        for path in reached:
            with self.subTest(path=path):
                self.assertNotIn(path, reached[path])


if __name__ == "__main__":
    unittest.main()

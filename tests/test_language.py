"""The package's files keep to LANGUAGE.md, as far as the shape of the code shows it.

Where a rule allows a form only in some places and the package has no use for it, the form is refused altogether.
"""

import ast
import builtins
import io
import pathlib
import re
import tokenize
import unittest

PACKAGE = pathlib.Path(__file__).resolve().parent.parent / "valleytree"

OWN_NAMES = set("""len range enumerate zip min max sum abs sorted reversed int str bool list tuple dict isinstance ord
    repr any all divmod ValueError KeyError IndexError LookupError ZeroDivisionError ArithmeticError OverflowError
    RuntimeError NotImplementedError StopIteration Exception""".split())
ERROR_BASES = set("""Exception ValueError TypeError KeyError IndexError LookupError ZeroDivisionError ArithmeticError
    OverflowError RuntimeError NotImplementedError""".split())
METHODS = set("""append clear copy count endswith extend find get index insert isalnum isalpha isdigit islower isspace
    isupper items join keys ljust lower lstrip partition pop remove replace reverse rfind rjust rpartition rsplit
    rstrip setdefault split splitlines startswith strip update upper values zfill bit_length""".split())
UNUSED = set("""register mro elements open input version_info with_traceback add_note attrgetter breakpoint builtins
    compile copyright credits delattr dir eval exec exit gc getattr globals hasattr help id importlib license locals
    methodcaller os quit setattr super type vars sys format format_map""".split())
WORDS = set("""type typing typing_extensions enum Enum IntEnum StrEnum Flag IntFlag Generic Protocol ABC ABCMeta
    namedtuple NamedTuple TypedDict TYPE_CHECKING abstractmethod""".split())
FILES = {"test", "tests", "testing", "site", "conftest", "sitecustomize", "usercustomize"}
KEYWORDS = {"sorted": {"key", "reverse"}, "min": {"key", "default"}, "max": {"key", "default"}, "sum": {"start"},
            "enumerate": {"start"}, "zip": {"strict"}}
WALKED = ("zip", "enumerate", "reversed", "range", "items", "keys", "values")
WALKERS = ("list", "tuple", "dict", "sorted", "sum", "any", "all", "enumerate", "zip", "min", "max")
STATEMENTS = (ast.Assign, ast.AugAssign, ast.If, ast.While, ast.For, ast.Return, ast.Break, ast.Continue, ast.Pass,
              ast.Raise, ast.Try, ast.Expr, ast.FunctionDef, ast.ClassDef, ast.ImportFrom)
EXPRESSIONS = (ast.Constant, ast.List, ast.Tuple, ast.Dict, ast.BinOp, ast.UnaryOp, ast.BoolOp, ast.Compare,
               ast.IfExp, ast.Call, ast.Attribute, ast.Subscript, ast.Slice, ast.ListComp, ast.JoinedStr,
               ast.FormattedValue, ast.Name, ast.Lambda)
VALUE_KINDS = (str, int, list, dict, set, frozenset, tuple, bytes)


def is_docstring(statement):
    return isinstance(statement, ast.Expr) and isinstance(getattr(statement.value, "value", None), str)


def called(node):
    function = node.func
    return function.id if isinstance(function, ast.Name) else getattr(function, "attr", "")


def bound_names(tree):
    """Every name that the file binds, with its line, but methods and values of objects."""
    methods = {id(part) for node in ast.walk(tree) if isinstance(node, ast.ClassDef) for part in node.body}
    found = []
    for node in ast.walk(tree):
        if isinstance(node, ast.Name) and isinstance(node.ctx, ast.Store):
            found.append((node.id, node.lineno))
        elif isinstance(node, ast.arg):
            found.append((node.arg, node.lineno))
        elif isinstance(node, (ast.FunctionDef, ast.ClassDef)) and id(node) not in methods:
            found.append((node.name, node.lineno))
        elif isinstance(node, ast.ExceptHandler) and node.name:
            found.append((node.name, node.lineno))
        elif isinstance(node, ast.ImportFrom):
            found.extend((part.asname or part.name, node.lineno) for part in node.names)
    return found


def top_names(tree):
    found = []
    for statement in tree.body:
        if isinstance(statement, (ast.FunctionDef, ast.ClassDef)):
            found.append(statement.name)
        elif isinstance(statement, ast.Assign):
            found.extend(target.id for target in statement.targets if isinstance(target, ast.Name))
        elif isinstance(statement, ast.ImportFrom):
            found.extend(part.asname or part.name for part in statement.names)
    return found


def defined_names(tree):
    """The names of the file's top that it doesn't draw from another file."""
    drawn = [part.asname or part.name for node in tree.body if isinstance(node, ast.ImportFrom) for part in node.names]
    return [name for name in top_names(tree) if name not in drawn]


def own_methods(tree):
    classes = [node for node in ast.walk(tree) if isinstance(node, ast.ClassDef)]
    return {part.name for node in classes for part in node.body if isinstance(part, ast.FunctionDef)}


def own_values(tree):
    return {node.attr for node in ast.walk(tree) if isinstance(node, ast.Attribute) and isinstance(node.ctx, ast.Store)}


class Checker:
    def __init__(self, source, methods):
        self.source = source
        self.tree = ast.parse(source)
        self.methods = methods | own_methods(self.tree)
        self.faults = []
        self.parents = {}
        for node in ast.walk(self.tree):
            for child in ast.iter_child_nodes(node):
                self.parents[child] = node

    def hold(self, rule, line, holds):
        if not holds:
            self.faults.append((rule, line))

    def run(self):
        self.check_text()
        self.check_top()
        self.check_names()
        for node in ast.walk(self.tree):
            if isinstance(node, ast.stmt):
                self.check_statement(node)
            elif isinstance(node, ast.expr):
                self.check_expression(node)
            if isinstance(node, ast.arguments):
                self.check_arguments(node)
        return self.faults

    def check_text(self):
        lines = self.source.split("\n")
        self.hold("L10", 1, len(lines) <= 401)
        for number, line in enumerate(lines, start=1):
            self.hold("L10", number, len(line) <= 120)
            self.hold("L14", number, all(" " <= sign <= "~" for sign in line))
            words = re.findall(r"\w+", line)
            self.hold("L17", number, not WORDS & set(words))
            self.hold("L17", number, not re.search("dataclass|overload|contextmanager", line))
        for token in tokenize.generate_tokens(io.StringIO(self.source).readline):
            if token.type == tokenize.STRING:
                self.hold("L27", token.start[0], "%" not in token.string)
                self.hold("L27", token.start[0], not re.search(r"\\[^nt\\'\"]", token.string.replace("\\\\", "")))

    def check_top(self):
        for position, statement in enumerate(self.tree.body):
            fine = isinstance(statement, (ast.ImportFrom, ast.FunctionDef, ast.ClassDef))
            fine = fine or position == 0 and is_docstring(statement)
            if isinstance(statement, ast.Assign):
                plain = (ast.Constant, ast.List, ast.Tuple, ast.Dict, ast.Name, ast.UnaryOp, ast.USub, ast.Load)
                fine = all(isinstance(part, plain) for part in ast.walk(statement.value))
            self.hold("L3", statement.lineno, fine)
        names = top_names(self.tree)
        self.hold("L15", 1, len(names) == len(set(names)))

    def check_names(self):
        bound = bound_names(self.tree)
        known = OWN_NAMES | {name for name, line in bound}
        classes = {node.name for node in self.tree.body if isinstance(node, ast.ClassDef)}
        imports = {part.asname or part.name for node in self.tree.body if isinstance(node, ast.ImportFrom)
                   for part in node.names}
        for name, line in bound:
            self.hold("L12", line, re.fullmatch("[A-Za-z][A-Za-z0-9_]*", name))
            self.hold("L15", line, name not in dir(builtins))
            self.hold("L17", line, name not in UNUSED)
            self.hold("L15", line, name not in classes | imports or [other for other, at in bound].count(name) == 1)
        for node in ast.walk(self.tree):
            if isinstance(node, ast.Name) and isinstance(node.ctx, ast.Load):
                self.hold("L8", node.lineno, node.id in known and node.id not in UNUSED)
        for name in own_methods(self.tree) | own_values(self.tree):
            self.hold("L12", 1, name == "__init__" or re.fullmatch("[A-Za-z][A-Za-z0-9_]*", name))
            self.hold("L26", 1, name == "__init__" or not any(hasattr(kind, name) for kind in VALUE_KINDS))
            self.hold("L17", 1, name not in UNUSED)

    def check_arguments(self, node):
        line = self.parents[node].lineno
        self.hold("L4", line, not (node.vararg or node.kwarg or node.kwonlyargs or node.posonlyargs))
        self.hold("L4", line, all(isinstance(value, ast.Constant) for value in node.defaults))
        self.hold("L21", line, not any(part.annotation for part in node.args))

    def check_statement(self, node):
        line = node.lineno
        self.hold("L6", line, isinstance(node, STATEMENTS))
        if isinstance(node, ast.ImportFrom):
            self.hold("L2", line, self.parents[node] == self.tree and node.level == 0)
            self.hold("L2", line, (node.module or "").startswith("valleytree."))
            self.hold("L2", line, all(part.name != "*" for part in node.names))
        elif isinstance(node, ast.FunctionDef):
            self.hold("L4", line, not node.decorator_list)
            self.hold("L21", line, node.returns is None)
            self.hold("L10", line, node.end_lineno - node.lineno < 40)
            returns = [part for part in ast.walk(node) if isinstance(part, ast.Return)]
            self.hold("L28", line, node.name != "__init__" or not any(part.value for part in returns))
        elif isinstance(node, ast.ClassDef):
            self.check_class(node)
        elif isinstance(node, ast.Assign):
            self.hold("L6", line, len(node.targets) == 1)
        elif isinstance(node, ast.Expr):
            self.hold("L6", line, isinstance(node.value, ast.Call) or node == self.tree.body[0])
        elif isinstance(node, (ast.For, ast.While)):
            self.hold("L6", line, not node.orelse)
        elif isinstance(node, ast.Try):
            self.hold("L6", line, not node.finalbody)
            for handler in node.handlers:
                self.hold("L19", line, handler.type and ast.unparse(handler.type) not in ("Exception", "TypeError"))
        elif isinstance(node, ast.Raise):
            self.hold("L19", line, isinstance(node.exc, ast.Call))

    def check_class(self, node):
        line = node.lineno
        self.hold("L15", line, self.parents[node] == self.tree)
        self.hold("L5", line, len(node.bases) <= 1 and not node.keywords and not node.decorator_list)
        self.hold("L5", line, all(isinstance(part, (ast.FunctionDef, ast.Pass)) for part in node.body))
        names = [part.name for part in node.body if isinstance(part, ast.FunctionDef)]
        self.hold("L18", line, len(names) == len(set(names)))
        for base in node.bases:
            own = ast.unparse(base) in top_names(self.tree)
            self.hold("L18", line, own or ast.unparse(base) in ERROR_BASES)

    def check_expression(self, node):
        line = node.lineno
        self.hold("L7", line, isinstance(node, EXPRESSIONS))
        if isinstance(node, ast.Constant):
            self.hold("L7", line, node.value is None or type(node.value) in (int, str, bool))
        elif isinstance(node, ast.BinOp):
            self.hold("L7", line, not isinstance(node.op, (ast.Div, ast.MatMult)))
            exponent = getattr(node.right, "value", None)
            self.hold("L27", line, not isinstance(node.op, ast.Pow) or type(exponent) is int and 0 <= exponent <= 64)
        elif isinstance(node, ast.ListComp):
            self.hold("L7", line, len(node.generators) == 1 and len(node.generators[0].ifs) <= 1)
        elif isinstance(node, ast.FormattedValue):
            plain = isinstance(node.value, ast.Name) and node.format_spec is None and node.conversion in (-1, ord("r"))
            self.hold("L7", line, plain)
        elif isinstance(node, ast.Compare):
            for operator, right in zip(node.ops, node.comparators):
                plain = isinstance(right, ast.Constant) and type(right.value) in (bool, type(None))
                self.hold("L20", line, not isinstance(operator, (ast.Is, ast.IsNot)) or plain)
        elif isinstance(node, ast.Call):
            self.check_call(node)
        elif isinstance(node, ast.Attribute):
            self.hold("L17", line, node.attr not in UNUSED)
            self.hold("L8", line, not node.attr.startswith("_") or node.attr == "__init__")

    def check_call(self, node):
        line, name = node.lineno, called(node)
        if isinstance(node.func, ast.Attribute):
            self.hold("L25", line, name in METHODS | self.methods)
        if name in OWN_NAMES | METHODS:
            self.hold("L22", line, {part.arg for part in node.keywords} <= KEYWORDS.get(name, set()))
        if name in WALKED:
            above = self.parents[node]
            walked = isinstance(above, (ast.For, ast.comprehension)) and above.iter == node
            handed = isinstance(above, ast.Call) and called(above) in WALKERS and above.args[0] == node
            self.hold("L23", line, walked or handed)


def faults_of(source, methods=frozenset()):
    return Checker(source, set(methods)).run()


def package_sources():
    paths = [path for path in sorted(PACKAGE.rglob("*")) if "__pycache__" not in path.parts]
    return {path: path.read_text(encoding="utf-8") for path in paths if path.is_file()}


class PackageTest(unittest.TestCase):
    def setUp(self):
        self.sources = package_sources()
        self.trees = {path.stem: ast.parse(source) for path, source in self.sources.items()}

    def test_files(self):
        self.assertIn(PACKAGE / "__init__.py", self.sources)
        for path in self.sources:
            self.assertEqual(path.parent, PACKAGE)
            self.assertRegex(path.name, r"\A([a-z][a-z0-9_]*|__init__)\.py\Z")
            self.assertNotIn(path.stem, FILES | WORDS | set(dir(builtins)))
            self.assertFalse(path.stem.startswith("test_"))

    def test_no_file_breaks_a_rule(self):
        methods = set().union(*[own_methods(tree) for tree in self.trees.values()])
        for path, source in self.sources.items():
            with self.subTest(file=path.name):
                self.assertEqual(faults_of(source, methods), [])

    def test_names_are_drawn_from_the_files_that_define_them(self):
        draws = {}
        for name, tree in self.trees.items():
            draws[name] = set()
            for node in tree.body:
                if isinstance(node, ast.ImportFrom):
                    source = node.module.removeprefix("valleytree.")
                    draws[name].add(source)
                    for part in node.names:
                        self.assertIn(part.name, defined_names(self.trees[source]))
        while draws:
            free = [name for name in draws if not draws[name] & set(draws)]
            self.assertTrue(free, "files draw from one another")
            draws = {name: draws[name] for name in draws if name not in free}

    def test_init_binds_nothing_of_its_files(self):
        self.assertFalse(set(top_names(self.trees["__init__"])) & set(self.trees))

    def test_no_name_is_both_method_and_value(self):
        methods = set().union(*[own_methods(tree) for tree in self.trees.values()])
        values = set().union(*[own_values(tree) for tree in self.trees.values()])
        self.assertFalse(methods & values)


BROKEN = (
    ("L2", "from os import path\n"), ("L2", "from .errors import NoRow\n"),
    ("L2", "def f():\n    from valleytree.rows import Row\n    return Row([])\n"), ("L6", "import random\n"),
    ("L3", "if True:\n    pass\n"), ("L3", "xs = list(())\n"), ("L4", "def f(*args):\n    pass\n"),
    ("L4", "def f(a, *, b):\n    pass\n"), ("L5", "class A:\n    size = 3\n"), ("L6", "def f(a):\n    assert a\n"),
    ("L6", "def f(a):\n    del a[0]\n"), ("L6", "def f(a):\n    b = c = a\n    return b + c\n"),
    ("L6", "def f(a):\n    a\n"), ("L6", "def f(a):\n    for b in a:\n        pass\n    else:\n        pass\n"),
    ("L7", "def f(a):\n    return a / 2\n"), ("L7", "def f():\n    return 1.5\n"),
    ("L7", "def f(a):\n    return sum(b for b in a)\n"), ("L7", "def f(a):\n    return {1: b for b in a}\n"),
    ("L7", "def f(a):\n    return f'{a:3}'\n"), ("L7", "def f(a):\n    return (b := a)\n"),
    ("L7", "def f(a):\n    return [*a]\n"), ("L8", "def f(a):\n    return map(a, a)\n"),
    ("L8", "def f(a):\n    return set(a)\n"), ("L10", "def f(a):\n" + "    a()\n" * 41), ("L10", "# " + "a" * 120 + "\n"),
    ("L12", "def _f():\n    pass\n"), ("L14", "# caf\u00e9\n"), ("L14", "def f():\n\treturn 1\n"),
    ("L15", "def f(min):\n    return min\n"), ("L15", "x = 1\nx = 2\n"),
    ("L15", "class A:\n    pass\n\n\ndef f(A):\n    return A\n"), ("L17", "# of this type\n"),
    ("L18", "class A(dict):\n    pass\n"), ("L18", "class A:\n    def f(self):\n        pass\n\n    def f(self):\n        pass\n"),
    ("L19", "def f(a):\n    try:\n        a()\n    except Exception:\n        pass\n"),
    ("L20", "def f(a, b):\n    return a is b\n"), ("L21", "def f(a: int):\n    return a\n"),
    ("L22", "def f(a):\n    return int(a, base=3)\n"), ("L23", "def f(a):\n    return range(a)\n"),
    ("L23", "def f(a):\n    return [b for b in reversed(range(a))]\n"), ("L25", "def f(a):\n    a.sort()\n"),
    ("L26", "class A:\n    def __init__(self):\n        self.items = []\n"), ("L27", "def f(a):\n    return 2 ** a\n"),
    ("L27", "x = '%'\n"), ("L27", "x = '\\x41'\n"), ("L28", "class A:\n    def __init__(self):\n        return None\n"),
)


class CheckerTest(unittest.TestCase):
    def test_broken_rules_are_seen(self):
        for rule, source in BROKEN:
            with self.subTest(rule=rule, source=source):
                self.assertIn(rule, [fault for fault, line in faults_of(source)])


if __name__ == "__main__":
    unittest.main()

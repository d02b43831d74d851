"""Reads the package's files by the rules of LANGUAGE.md: tells each place that lies outside one.

Not all of each rule is read: L9, L11 and L13 not at all, and of L15, L18, L19, L22, L23, L26 and L28 only what shows
in the shape of a single place. A file without faults here may still lie outside. The document asks for no
__main__.py, so none is let pass.
"""

import ast
import builtins
import re

PACKAGE = "leafjudge"
BUILTINS = set(dir(builtins))
ERRORS = set("""Exception ValueError TypeError KeyError IndexError LookupError ZeroDivisionError ArithmeticError
    OverflowError RuntimeError NotImplementedError AttributeError StopIteration""".split())
OWN_NAMES = ERRORS | set("""len range enumerate zip min max sum abs sorted reversed int str bool list tuple dict set
    frozenset isinstance ord repr any all divmod""".split())
METHODS = set("""append clear copy count endswith extend find get index insert isalnum isalpha isdigit islower isspace
    isupper items join keys ljust lower lstrip partition pop remove replace reverse rfind rjust rpartition rsplit
    rstrip setdefault split splitlines startswith strip update upper values zfill bit_length""".split())
CHANGING = set("append clear extend insert pop remove reverse setdefault update".split())
UNDERSCORED = {"__init__", "__eq__", "__repr__", "__str__", "__len__"}
NOT_NAMES = set("""register mro elements open input version_info with_traceback add_note attrgetter breakpoint builtins
    compile copyright credits delattr dir eval exec exit gc getattr globals hasattr help id importlib license locals
    methodcaller os quit setattr super vars sys chr print""".split())
NOT_ATTRIBUTES = set("register mro elements open input version_info with_traceback add_note format format_map".split())
NOT_WORDS = re.compile(r"\b(type|typing|typing_extensions|enum|Enum|IntEnum|StrEnum|Flag|IntFlag|Generic|Protocol|ABC"
                       r"|ABCMeta|namedtuple|NamedTuple|TypedDict|TYPE_CHECKING|abstractmethod)\b"
                       r"|dataclass|overload|contextmanager")
NOT_FILES = re.compile(r"test|tests|testing|test_.*|site|conftest|sitecustomize|usercustomize")
NOT_VALUES = CHANGING | {"items", "keys", "values", "sort", "args", "encode", "format"}
WALKS = {"zip", "enumerate", "reversed", "range"}
WALKING_METHODS = {"items", "keys", "values"}
WALKERS = {"list", "tuple", "dict", "sorted", "sum", "any", "all", "enumerate", "zip", "min", "max"}
KEYWORDS = {"sorted": {"key", "reverse"}, "min": {"key", "default"}, "max": {"key", "default"}, "sum": {"start"},
            "enumerate": {"start"}, "zip": {"strict"}}
STATEMENTS = (ast.Assign, ast.AugAssign, ast.If, ast.While, ast.For, ast.Return, ast.Break, ast.Continue, ast.Pass,
              ast.Raise, ast.Try, ast.Expr, ast.FunctionDef, ast.ClassDef, ast.ImportFrom)
EXPRESSIONS = (ast.Constant, ast.List, ast.Tuple, ast.Dict, ast.Set, ast.BinOp, ast.UnaryOp, ast.Compare, ast.BoolOp,
               ast.IfExp, ast.Call, ast.Attribute, ast.Subscript, ast.Slice, ast.ListComp, ast.JoinedStr,
               ast.FormattedValue, ast.Name, ast.Lambda)
ESCAPE = re.compile(r"\\(?:\\|n|t|'|\")|(\\)")


def is_docstring(node):
    return isinstance(node, ast.Expr) and isinstance(node.value, ast.Constant) and isinstance(node.value.value, str)


def is_plain(node, functions):
    """A plain value of a module's top, or of a default."""
    if isinstance(node, ast.UnaryOp) and isinstance(node.op, ast.USub):
        return isinstance(node.operand, ast.Constant)
    if isinstance(node, (ast.List, ast.Tuple)):
        return all(is_plain(part, functions) for part in node.elts)
    if isinstance(node, ast.Dict):
        return all(part is not None and is_plain(part, functions) for part in node.keys + node.values)
    return isinstance(node, ast.Constant) or (isinstance(node, ast.Name) and node.id in functions)


def defined_in(tree):
    """The names that a file's top binds itself, each as often as it does."""
    told = []
    for node in tree.body:
        if isinstance(node, (ast.FunctionDef, ast.ClassDef)):
            told.append(node.name)
        if isinstance(node, ast.Assign):
            told.extend(target.id for target in node.targets if isinstance(target, ast.Name))
    return told


def drawn_by(tree):
    return [node for node in ast.walk(tree) if isinstance(node, ast.ImportFrom) and node.module != "__future__"]


class FileReader:
    """Reads one file; faults are tuples (rule, line, what)."""

    def __init__(self, text, trees, own_methods):
        self.text = text
        self.tree = ast.parse(text)
        self.trees = trees
        self.own_methods = own_methods
        self.faults = []
        self.above = {}
        for node in ast.walk(self.tree):
            for child in ast.iter_child_nodes(node):
                self.above[child] = node

    def fault(self, wrong, rule, node, what):
        if wrong:
            self.faults.append((rule, getattr(node, "lineno", node), what))

    def read(self):
        self.read_lines()
        self.read_top()
        for node in ast.walk(self.tree):
            self.read_shape(node)
            self.read_names(node)
            for kind, reader in READERS:
                if isinstance(node, kind):
                    reader(self, node)
        return sorted(self.faults, key=lambda fault: (fault[1], fault[0]))

    def read_lines(self):
        lines = self.text.split("\n")
        self.fault(len(lines) - 1 > 400, "L10", len(lines), "a file of more than 400 lines")
        for number, line in enumerate(lines, start=1):
            self.fault(len(line) > 120, "L10", number, "a line of more than 120 signs")
            self.fault(any(not " " <= sign <= "~" for sign in line), "L14", number, "a sign that is none")
            self.fault(NOT_WORDS.search(line), "L17", number, "a word that stands nowhere")

    def read_top(self):
        told = defined_in(self.tree)
        for node in drawn_by(self.tree):
            told.extend(alias.asname or alias.name for alias in node.names)
        for name in sorted(set(told)):
            self.fault(told.count(name) > 1, "L15", 1, f"{name} is bound twice")
        functions = [node.name for node in self.tree.body if isinstance(node, ast.FunctionDef)]
        for k, node in enumerate(self.tree.body):
            if isinstance(node, ast.Assign):
                self.fault(not is_plain(node.value, functions), "L3", node, "no plain value")
                parts = [part for part in ast.walk(node.value) if isinstance(part, (ast.List, ast.Dict))]
                self.fault(any(part is not node.value for part in parts), "L15", node, "a list within a value")
                self.fault(any(not isinstance(target, ast.Name) for target in node.targets), "L3", node, "no name")
            elif not isinstance(node, (ast.FunctionDef, ast.ClassDef, ast.ImportFrom)):
                self.fault(k > 0 or not is_docstring(node), "L3", node, "stands at the top")

    def read_shape(self, node):
        if isinstance(node, ast.Import):
            self.fault(True, "L2", node, "no from")
        elif isinstance(node, ast.stmt):
            self.fault(not isinstance(node, STATEMENTS), "L6", node, "no statement to use")
        if isinstance(node, ast.expr):
            self.fault(not isinstance(node, EXPRESSIONS), "L7", node, "no expression to use")
        if isinstance(node, (ast.Div, ast.MatMult)):
            self.fault(True, "L7", self.above[node], "no operator to use")

    def read_names(self, node):
        bound = None
        if isinstance(node, ast.Name):
            self.fault(node.id in BUILTINS and isinstance(node.ctx, ast.Load) and node.id not in OWN_NAMES,
                       "L8", node, node.id)
            self.fault(node.id in NOT_NAMES, "L17", node, node.id)
            bound = node.id if isinstance(node.ctx, ast.Store) else None
            self.fault(node.id.startswith("_"), "L12", node, node.id)
        if isinstance(node, ast.arg):
            bound = node.arg
            self.fault(node.annotation is not None, "L21", node, "an annotation")
        if isinstance(node, (ast.FunctionDef, ast.ClassDef)) and not isinstance(self.above[node], ast.ClassDef):
            bound = node.name
        if isinstance(node, ast.ExceptHandler):
            bound = node.name
        if bound is not None:
            self.fault(bound in BUILTINS, "L15", node, f"{bound} is Python's own")
            self.fault(bound in NOT_NAMES, "L17", node, bound)
            self.fault(bound.startswith("_") or not bound.isascii(), "L12", node, bound)
            taken = [part.name for part in self.tree.body if isinstance(part, ast.ClassDef)]
            for drawn in drawn_by(self.tree):
                taken.extend(alias.name for alias in drawn.names)
            self.fault(bound in taken and not isinstance(node, ast.ClassDef), "L15", node, f"{bound} is bound above")

    def read_import(self, node):
        if node.module == "__future__":
            return
        self.fault(self.above[node] is not self.tree, "L2", node, "not at the top")
        self.fault(node.level != 0 or node.module not in self.trees, "L2", node, "not of the package")
        for alias in node.names:
            self.fault(alias.name == "*", "L2", node, "a star")
            own = node.level == 0 and node.module in self.trees and alias.name in defined_in(self.trees[node.module])
            self.fault(not own, "L16", node, f"{alias.name} is not defined there")

    def read_function(self, node):
        told = node.args
        self.fault(told.vararg or told.kwarg or told.kwonlyargs or told.posonlyargs, "L4", node, "its parameters")
        self.fault(not all(is_plain(value, []) for value in told.defaults), "L4", node, "its defaults")
        if isinstance(node, ast.Lambda):
            return
        self.fault(node.decorator_list, "L4", node, "a decorator")
        self.fault(node.returns is not None, "L21", node, "an annotation")
        self.fault(node.end_lineno - node.lineno >= 40, "L10", node, "more than 40 lines")
        if isinstance(self.above[node], ast.ClassDef):
            self.fault(node.name.startswith("_") and node.name not in UNDERSCORED, "L5", node, node.name)
        if node.name == "__init__":
            gives = any(isinstance(part, ast.Return) and part.value is not None for part in ast.walk(node))
            self.fault(gives, "L28", node, "gives something back")

    def read_class(self, node):
        self.fault(self.above[node] is not self.tree, "L15", node, "not at the top")
        self.fault(len(node.bases) > 1 or node.keywords or node.decorator_list, "L5", node, "its first line")
        for part in node.body:
            right = isinstance(part, (ast.FunctionDef, ast.Pass)) or is_docstring(part)
            self.fault(not right, "L5", part, "a value")
        methods = [part.name for part in node.body if isinstance(part, ast.FunctionDef)]
        self.fault(len(set(methods)) < len(methods), "L18", node, "a method stands twice")
        bases = [base.id for base in node.bases if isinstance(base, ast.Name)]
        self.fault(set(bases) & {"StopIteration", "AttributeError"}, "L18", node, "its base")

    def read_assign(self, node):
        self.fault(len(node.targets) != 1, "L6", node, "more than one target")

    def read_loop(self, node):
        self.fault(node.orelse, "L6", node, "an else behind a loop")

    def read_try(self, node):
        self.fault(node.finalbody, "L6", node, "finally")

    def read_handler(self, node):
        parts = node.type.elts if isinstance(node.type, ast.Tuple) else [node.type]
        for part in parts:
            self.fault(not isinstance(part, ast.Name), "L6", node, "no named error")
            self.fault(isinstance(part, ast.Name) and part.id in ("Exception", "TypeError"), "L19", node, "too wide")

    def read_raise(self, node):
        self.fault(not isinstance(node.exc, ast.Call), "L19", node, "an error not made on the spot")

    def read_statement_of_value(self, node):
        self.fault(not isinstance(node.value, ast.Call) and not is_docstring(node), "L6", node, "does nothing")

    def read_constant(self, node):
        self.fault(not isinstance(node.value, (int, str, type(None))), "L7", node, "no plain value")
        if isinstance(node.value, str):
            self.fault("%" in node.value, "L27", node, "a percent sign")
            written = ast.get_source_segment(self.text, node) or ""
            self.fault(any(found for found in ESCAPE.findall(written)), "L27", node, "an escape")

    def read_comprehension(self, node):
        wide = len(node.generators) != 1 or len(node.generators[0].ifs) > 1 or node.generators[0].is_async
        self.fault(wide, "L7", node, "more than one for or if")

    def read_braces(self, node):
        plain = isinstance(node.value, ast.Name) and node.format_spec is None and node.conversion in (-1, ord("r"))
        self.fault(not plain, "L7", node, "no plain name in braces")

    def read_compare(self, node):
        for k, operator in enumerate(node.ops):
            if isinstance(operator, (ast.Is, ast.IsNot)):
                sides = [node.left, *node.comparators][k:k + 2]
                beside = any(isinstance(side, ast.Constant) and side.value in (None, True, False)
                             and not isinstance(side.value, str) for side in sides)
                self.fault(not beside, "L20", node, "is")

    def read_power(self, node):
        if isinstance(node.op, ast.Pow):
            written = isinstance(node.right, ast.Constant) and node.right.value in range(65)
            self.fault(not written, "L27", node, "an exponent that is not written")

    def read_attribute(self, node):
        underscored = node.attr.startswith("_") and node.attr not in UNDERSCORED
        self.fault(underscored, "L12", node, node.attr)
        self.fault(node.attr in NOT_ATTRIBUTES, "L17", node, node.attr)
        if isinstance(node.ctx, ast.Store):
            self.fault(node.attr in NOT_VALUES, "L26", node, node.attr)
            self.fault(node.attr in self.own_methods, "L18", node, f"{node.attr} is a method too")
        called = isinstance(self.above[node], ast.Call) and self.above[node].func is node
        if called:
            right = METHODS | self.own_methods | UNDERSCORED
            self.fault(node.attr not in right, "L25", node, node.attr)
        top = isinstance(node.value, ast.Name) and node.value.id in defined_in(self.tree)
        self.fault(top and called and node.attr in CHANGING, "L15", node, "changes what the top holds")

    def read_call(self, node):
        name = node.func.id if isinstance(node.func, ast.Name) else None
        own = name in OWN_NAMES
        method = isinstance(node.func, ast.Attribute) and node.func.attr in METHODS
        for word in node.keywords:
            self.fault(word.arg is None, "L7", node, "stars")
            wrong = (own and word.arg not in KEYWORDS.get(name, set())) or method
            self.fault(wrong, "L22", node, f"the keyword {word.arg}")
        walking = isinstance(node.func, ast.Attribute) and node.func.attr in WALKING_METHODS
        if name in WALKS or walking:
            self.fault(not self.is_walked(node), "L23", node, "not walked on the spot")
        if name in ("set", "frozenset"):
            self.fault(not self.is_set_in_place(node), "L24", node, "a set that is kept")

    def is_walked(self, node):
        above = self.above[node]
        if isinstance(above, (ast.For, ast.comprehension)):
            return above.iter is node
        if not isinstance(above, ast.Call) or node not in above.args:
            return False
        if isinstance(above.func, ast.Attribute):
            return above.func.attr == "join" and isinstance(above.func.value, ast.Constant)
        name = above.func.id if isinstance(above.func, ast.Name) else None
        first = above.args[0] is node or name == "zip"
        alone = len(above.args) == 1 or name not in ("min", "max")
        return name in WALKERS and first and alone

    def is_set_in_place(self, node):
        above = self.above[node]
        while isinstance(above, ast.BinOp):
            above = self.above[above]
        if isinstance(above, ast.Compare):
            return all(isinstance(operator, (ast.In, ast.NotIn, ast.Eq, ast.NotEq)) for operator in above.ops)
        call = isinstance(above, ast.Call) and isinstance(above.func, ast.Name)
        return call and above.func.id in ("sorted", "len") and not above.keywords


READERS = [
    (ast.ImportFrom, FileReader.read_import), ((ast.FunctionDef, ast.Lambda), FileReader.read_function),
    (ast.ClassDef, FileReader.read_class), (ast.Assign, FileReader.read_assign),
    ((ast.For, ast.While), FileReader.read_loop), (ast.Try, FileReader.read_try),
    (ast.ExceptHandler, FileReader.read_handler), (ast.Raise, FileReader.read_raise),
    (ast.Expr, FileReader.read_statement_of_value), (ast.Constant, FileReader.read_constant),
    (ast.ListComp, FileReader.read_comprehension), (ast.FormattedValue, FileReader.read_braces),
    (ast.Compare, FileReader.read_compare), (ast.BinOp, FileReader.read_power),
    (ast.Attribute, FileReader.read_attribute), (ast.Call, FileReader.read_call),
]


def name_faults(files):
    faults = []
    for path in sorted(files):
        stem = path[:-3]
        if not path.endswith(".py") or not re.fullmatch(r"[a-z][a-z0-9_]*|__init__", stem):
            faults.append((path, "L1", 0, "its name"))
        if NOT_FILES.fullmatch(stem) or stem in BUILTINS:
            faults.append((path, "L14", 0, "its name"))
    if "__init__.py" not in files:
        faults.append(("__init__.py", "L14", 0, "lacks"))
    return faults


def reaches(start, goal, draws, met):
    for module in draws[start]:
        if module == goal:
            return True
        if module in draws and module not in met and reaches(module, goal, draws, met + [module]):
            return True
    return False


def circle_faults(trees):
    draws = {module: [node.module for node in drawn_by(tree)] for module, tree in trees.items()}
    return [(module, "L16", 0, "draws from itself") for module in draws if reaches(module, module, draws, [])]


def faults_of(files):
    """Of a dict of file names and texts: a list of tuples (file, rule, line, what)."""
    faults = name_faults(files)
    python_files = [path for path in sorted(files) if path.endswith(".py")]
    trees = {f"{PACKAGE}.{path[:-3]}": ast.parse(files[path]) for path in python_files}
    classes = [node for tree in trees.values() for node in tree.body if isinstance(node, ast.ClassDef)]
    methods = set(part.name for node in classes for part in node.body if isinstance(part, ast.FunctionDef))
    for path in python_files:
        faults.extend((path, *fault) for fault in FileReader(files[path], trees, methods).read())
    return faults + circle_faults(trees)

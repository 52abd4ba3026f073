"""The rules of the language, as far as they can be seen in the code: each finding names the rule and the line."""

import ast
import builtins
import functools
import os
import re
import unittest
import warnings

FOLDER = os.path.join(os.path.dirname(os.path.dirname(os.path.abspath(__file__))), "whichdepot")

LIBRARY = {
    "heapq": {"heappush", "heappop", "heapify", "heapreplace", "heappushpop"},
    "math": {"gcd", "lcm", "isqrt", "comb", "perm", "factorial"},
    "itertools": {"chain", "accumulate", "pairwise", "islice", "zip_longest"},
    "collections": {"defaultdict"},
}
BUILTINS = set(
    "len range enumerate zip min max sum abs sorted reversed int str bool bytes list tuple dict set frozenset isinstance"
    " ord repr any all divmod pow iter next Exception ValueError TypeError KeyError IndexError LookupError"
    " ZeroDivisionError ArithmeticError OverflowError RuntimeError NotImplementedError NotImplemented super property"
    " staticmethod classmethod".split()
)
OPERATORS = "add sub mul floordiv mod pow and or xor lshift rshift".split()
DUNDERS = {f"__{name}__" for name in (
    "init eq repr str len enter exit call iter lt le gt ge ne contains getitem setitem neg pos invert abs bool".split()
    + OPERATORS + ["r" + name for name in OPERATORS if name != "pow"] + ["i" + name for name in OPERATORS]
)}
VALUE_METHODS = set(
    "append clear copy count endswith extend find get index insert isalnum isalpha isdigit islower isspace isupper items"
    " join keys ljust lower lstrip partition pop remove replace reverse rfind rjust rpartition rsplit rstrip setdefault"
    " split splitlines startswith strip update upper values zfill bit_length title capitalize swapcase casefold center"
    " expandtabs removeprefix removesuffix rindex isascii isdecimal isnumeric istitle isidentifier isprintable add"
    " discard".split()
)
STATEMENTS = (
    ast.Assign, ast.AugAssign, ast.AnnAssign, ast.If, ast.While, ast.For, ast.Return, ast.Break, ast.Continue, ast.Pass,
    ast.Raise, ast.Assert, ast.Delete, ast.Nonlocal, ast.Match, ast.With, ast.Try, ast.Expr, ast.FunctionDef,
    ast.ClassDef, ast.ImportFrom,
)
NOWHERE = set("register mro elements open input law version_info with_traceback add_note".split())
NO_NAMES = set(
    "attrgetter breakpoint builtins compile copyright credits delattr dir eval exec exit gc getattr globals hasattr help"
    " id importlib license locals methodcaller os quit setattr type vars sys __name__".split()
)
NO_WORDS = set(
    "type typing typing_extensions enum Enum IntEnum StrEnum Flag IntFlag Generic Protocol ABC ABCMeta namedtuple"
    " NamedTuple TypedDict TYPE_CHECKING abstractmethod".split()
)
NO_ATTRIBUTES = set(
    "items keys values pop update append clear extend insert remove reverse setdefault sort args encode decode hex"
    " fromhex format format_map mro".split()
)
CHANGING = set("append extend insert pop remove clear reverse update setdefault add discard".split())
ONCE = {"zip", "enumerate", "reversed", "range", "map"}
VIEWS = {"items", "keys", "values"}
TAKERS = {"list", "tuple", "dict", "sorted", "sum", "any", "all", "enumerate", "zip"}
PLAIN_NAME = re.compile(r"_?[A-Za-z][A-Za-z0-9_]*|_|__[a-z]+__")
PLAIN_VALUES = (ast.Constant, ast.Tuple, ast.List, ast.Dict, ast.UnaryOp, ast.USub, ast.BinOp, ast.operator, ast.Load,
                ast.Name)


class File:
    """A file of the package: its name, its text, its tree, and what stands above each part of the tree."""

    def __init__(self, name, text):
        self.name = name
        self.text = text
        self.tree = ast.parse(text)
        self.nodes = list(ast.walk(self.tree))
        self.above = {below: node for node in self.nodes for below in ast.iter_child_nodes(node)}

    def all(self, *kinds):
        return [node for node in self.nodes if isinstance(node, kinds)]

    def functions(self):
        return self.all(ast.FunctionDef, ast.Lambda)

    def imported(self):
        return [alias.name for node in self.all(ast.ImportFrom) for alias in node.names]

    def top_names(self):
        found = []
        for node in self.tree.body:
            if isinstance(node, (ast.FunctionDef, ast.ClassDef)):
                found.append(node.name)
            if isinstance(node, ast.Assign):
                found.extend(target.id for target in node.targets if isinstance(target, ast.Name))
        return found

    def docstrings(self):
        owners = self.all(ast.Module, ast.ClassDef, ast.FunctionDef)
        firsts = [owner.body[0] for owner in owners if owner.body]
        return [first.value for first in firsts if isinstance(first, ast.Expr) and isinstance(first.value, ast.Constant)]


def package_files():
    """The files of the package."""
    names = sorted(name for name in os.listdir(FOLDER) if name != "__pycache__")
    found = []
    for name in names:
        with open(os.path.join(FOLDER, name), encoding="utf-8", newline="") as source:
            found.append(File(name, source.read()))
    return found


def bound_names(node):
    """The names that a function binds: parameters, and what it assigns, loops over, catches or nests."""
    found = [argument.arg for argument in ast.walk(node) if isinstance(argument, ast.arg)]
    for below in ast.walk(node):
        if isinstance(below, ast.Name) and isinstance(below.ctx, (ast.Store, ast.Del)):
            found.append(below.id)
        if isinstance(below, ast.ExceptHandler) and below.name:
            found.append(below.name)
        if isinstance(below, ast.FunctionDef) and below is not node:
            found.append(below.name)
    return found


def check_text(file, files):
    """L10, L14, L17: lines, characters and words."""
    lines = file.text.split("\n")
    if len(lines) - 1 > 399:
        yield ("L10", len(lines), "a file of more than 399 lines")
    if not file.text.endswith("\n"):
        yield ("L10", len(lines), "no line feed at the end")
    for number, line in enumerate(lines, 1):
        if len(line) > 120:
            yield ("L10", number, "a line of more than 120 characters")
        if not all(" " <= letter <= "~" for letter in line):
            yield ("L14", number, "a character that is not allowed")
        for word in ["(type)", "Meta", "metaclass=", "_wall", "_WallAttr"]:
            if word in line:
                yield ("L17", number, word)
    for node in file.functions():
        if isinstance(node, ast.FunctionDef) and node.end_lineno - node.lineno + 1 > 40:
            yield ("L10", node.lineno, "a function of more than 40 lines")
    docs = file.docstrings()
    for node in file.all(ast.Constant):
        if isinstance(node.value, str) and node not in docs:
            for word in re.findall(r"\w+", node.value):
                if word in NO_WORDS - {"type"} or re.search("dataclass|overload|contextmanager", word):
                    yield ("L17", node.lineno, word)
            if re.match(r"__.*__\Z", node.value) or node.value.endswith(("._", ".__")):
                yield ("L27", node.lineno, "a string with underscores")
        if isinstance(node.value, str) and "%" in node.value:
            yield ("L27", node.lineno, "the character for remainders in a string")
        if isinstance(node.value, (float, complex)):
            yield ("L7", node.lineno, "a float")
        if isinstance(node.value, bytes):
            yield ("L7", node.lineno, "bytes")


def check_file_name(file, files):
    """L1, L14: names of files."""
    if not re.fullmatch(r"[a-z][a-z0-9_]*\.py|__init__\.py|__main__\.py", file.name):
        yield ("L14", 0, "the name of the file")
    stem = file.name[:-3].strip("_")
    if stem in NOWHERE | NO_WORDS or hasattr(builtins, stem) or re.match(r"law_|test|site\Z|conftest", stem):
        yield ("L14", 0, "the name of the file")
    if len(files) > 100:
        yield ("L14", 0, "more than 100 files")


def check_imports(file, files):
    """L2, L16: imports by full names, from the very file, and in no circle."""
    tops = {other.name[:-3]: other for other in files}
    body = [node for node in file.tree.body if not (isinstance(node, ast.Expr) and isinstance(node.value, ast.Constant))]
    for at, node in enumerate(body):
        if isinstance(node, ast.ImportFrom) and any(not isinstance(other, ast.ImportFrom) for other in body[:at]):
            yield ("L2", node.lineno, "an import below other rows")
    for node in file.all(ast.Import):
        yield ("L16", node.lineno, "a module imported as a name")
    for node in file.all(ast.ImportFrom):
        names = [alias.name for alias in node.names]
        if node.level or any(alias.asname for alias in node.names) or file.above[node] is not file.tree:
            yield ("L2", node.lineno, "the form of an import")
        elif node.module in LIBRARY:
            if not set(names) <= LIBRARY[node.module]:
                yield ("L2", node.lineno, "a word that may not be imported")
        elif not node.module.startswith("whichdepot.") or node.module[11:] not in tops:
            yield ("L2", node.lineno, "no module of the package")
        elif not set(names) <= set(tops[node.module[11:]].top_names()):
            yield ("L16", node.lineno, "a name that the file does not define")
    if file.name[:-3] in reached_from(file, tops):
        yield ("L16", 0, "files that import from each other")


def reached_from(file, tops):
    """The files that a file imports from, directly or through others."""
    found = imported_stems(file)
    for stem in found:
        if stem in tops:
            found.extend(other for other in imported_stems(tops[stem]) if other not in found)
    return found


def imported_stems(file):
    """The files that a file imports from."""
    modules = [node.module or "" for node in file.all(ast.ImportFrom)]
    return [module[11:] for module in modules if module.startswith("whichdepot.")]


def check_module_level(file, files):
    """L3, L15: what stands outside of functions and classes."""
    bound = file.imported() + file.top_names()
    for name in bound:
        if bound.count(name) > 1:
            yield ("L15", 0, f"{name} is bound twice")
    for at, node in enumerate(file.tree.body):
        if isinstance(node, ast.Assign):
            if len(node.targets) != 1 or not isinstance(node.targets[0], ast.Name):
                yield ("L3", node.lineno, "an assignment that is not plain")
            if not all(isinstance(below, PLAIN_VALUES) for below in ast.walk(node.value)):
                yield ("L3", node.lineno, "a value that is not plain")
            for below in ast.walk(node.value):
                if below is not node.value and isinstance(below, (ast.List, ast.Dict)):
                    yield ("L15", node.lineno, "a list or dict within another one")
        elif isinstance(node, ast.Expr):
            if at > 0 or not isinstance(node.value, ast.Constant):
                yield ("L3", node.lineno, "a row that is executed")
        elif not isinstance(node, (ast.FunctionDef, ast.ClassDef, ast.ImportFrom)):
            yield ("L3", node.lineno, "a statement at module level")


def check_names(file, files):
    """L8, L12, L15, L17: names that are bound and names that are read."""
    outer = set(file.imported()) | {node.name for node in file.all(ast.ClassDef)}
    names = [(node.id, node) for node in file.all(ast.Name)] + [(node.arg, node) for node in file.all(ast.arg)]
    names += [(node.name, node) for node in file.all(ast.FunctionDef, ast.ClassDef)]
    for name, node in names:
        if not PLAIN_NAME.fullmatch(name) or re.match(r"_(pe|dcw|enum|cm|twin_re|lay|law|stub)_|_sre", name):
            yield ("L12", node.lineno, name)
        if name in NOWHERE | NO_NAMES | NO_WORDS:
            yield ("L17", node.lineno, name)
    for node in file.functions():
        for name in bound_names(node):
            if name in outer:
                yield ("L15", node.lineno, f"{name} is a class or an import of the file")
            if hasattr(builtins, name):
                yield ("L15", node.lineno, f"{name} is a builtin")
    for name in file.top_names():
        if hasattr(builtins, name):
            yield ("L15", 0, f"{name} is a builtin")
    known = outer | set(file.top_names()) | BUILTINS
    for node in file.all(ast.Name):
        if isinstance(node.ctx, ast.Load) and node.id not in known and not is_setter(file.above[file.above[node]]):
            holders = [holder for holder in holders_of(file, node) if isinstance(holder, (ast.FunctionDef, ast.Lambda))]
            if not any(node.id in bound_names(holder) for holder in holders):
                yield ("L8", node.lineno, node.id)
        if isinstance(node.ctx, ast.Load) and node.id == "_":
            yield ("L12", node.lineno, "the name _ is read")


def is_setter(node):
    """Whether a node is a method for the assignment of the property of its own name."""
    decorators = [ast.unparse(below) for below in getattr(node, "decorator_list", [])]
    return isinstance(node, ast.FunctionDef) and decorators == [f"{node.name}.setter"]


def holders_of(file, node):
    """All that a node stands in, from the inside."""
    found = []
    while node in file.above:
        node = file.above[node]
        found.append(node)
    return found


def check_statements(file, files):
    """L6, L7: statements and expressions."""
    for node in file.all(ast.stmt):
        if not isinstance(node, STATEMENTS):
            if not (isinstance(node, ast.Expr) and isinstance(node.value, (ast.Yield, ast.YieldFrom))):
                yield ("L6", node.lineno, "a statement that is not allowed")
        if isinstance(node, (ast.Match, ast.With, ast.Assert)) or (isinstance(node, ast.Try) and node.finalbody):
            yield ("L6", node.lineno, "a statement whose rules are not looked at here")
        if isinstance(node, ast.Try):
            caught = [handler.type for handler in node.handlers]
            if not all(isinstance(one, ast.Name) and one.id in own_errors(files) for one in caught):
                yield ("L19", node.lineno, "an error that is not the package's own is caught")
        targets = [node.target] if isinstance(node, ast.For) else node.targets if isinstance(node, ast.Assign) else []
        if any(isinstance(below, ast.List) for target in targets for below in ast.walk(target)):
            yield ("L6", node.lineno, "a target in square brackets")
        if isinstance(node, ast.AugAssign) and isinstance(node.target, ast.Subscript):
            if isinstance(node.target.slice, ast.Slice):
                yield ("L6", node.lineno, "a sum assigned to a slice")
        if isinstance(node, ast.Expr) and isinstance(node.value, ast.Constant) and node.value not in file.docstrings():
            yield ("L6", node.lineno, "a value on its own")
        if isinstance(node, ast.Raise) and node.exc is not None:
            if not (isinstance(node.exc, ast.Call) and isinstance(node.exc.func, ast.Name)) or node.cause is not None:
                yield ("L19", node.lineno, "an error that is not created on the spot")
    for node in file.all(ast.comprehension):
        if isinstance(node.target, ast.List):
            yield ("L23", 0, "a target in square brackets")
    for node in file.all(ast.BinOp, ast.AugAssign):
        if isinstance(node.op, (ast.Div, ast.MatMult)):
            yield ("L7", node.lineno, "a division")
        if isinstance(node.op, ast.Pow) and not (isinstance(node.right, ast.Constant) and 0 <= node.right.value <= 64):
            yield ("L27", node.lineno, "an exponent")
    for node in file.all(ast.GeneratorExp, ast.NamedExpr, ast.Await):
        yield ("L7", node.lineno, "an expression that is not used here")
    for node in file.all(ast.Compare):
        for operator, right in zip(node.ops, node.comparators):
            if isinstance(operator, (ast.Is, ast.IsNot)):
                if not (isinstance(right, ast.Constant) and right.value in (None, True, False)):
                    yield ("L20", node.lineno, "is beside another value")


def own_errors(files):
    """The names of the error classes of the package: those whose base class is an error."""
    found = {"ValueError"}
    for file in files:
        for node in file.all(ast.ClassDef):
            if any(isinstance(base, ast.Name) and base.id in found for base in node.bases):
                found.add(node.name)
    return found - {"ValueError"}


def check_definitions(file, files):
    """L4, L5, L28: functions, classes and decorators."""
    for node in file.all(ast.ClassDef):
        if node.decorator_list or node.keywords or file.above[node] is not file.tree:
            yield ("L5", node.lineno, "a class with a decorator or a keyword, or not at module level")
        names = [below.name for below in node.body if isinstance(below, ast.FunctionDef) and not is_setter(below)]
        if "__getitem__" in names and "__iter__" not in names:
            yield ("L5", node.lineno, "__getitem__ without __iter__")
        for below in node.body:
            if isinstance(below, ast.FunctionDef) and below.name.startswith("__") and below.name not in DUNDERS:
                yield ("L5", below.lineno, below.name)
            if isinstance(below, ast.FunctionDef) and names.count(below.name) > 1:
                yield ("L18", below.lineno, "a method that is defined twice")
            if not isinstance(below, (ast.FunctionDef, ast.Assign, ast.Expr)):
                yield ("L5", below.lineno, "a row in a class")
            if isinstance(below, ast.Assign) and not isinstance(below.value, (ast.Constant, ast.Tuple)):
                yield ("L5", below.lineno, "a class value")
    for node in file.all(ast.FunctionDef):
        in_class = isinstance(file.above[node], ast.ClassDef)
        decorators = [below.id if isinstance(below, ast.Name) else "?" for below in node.decorator_list]
        if decorators and not is_setter(node) and (not in_class or decorators not in (["property"], ["staticmethod"], ["classmethod"])):
            yield ("L4", node.lineno, "a decorator")
        if node.name.startswith("__") and not in_class:
            yield ("L28", node.lineno, node.name)
        for default in node.args.defaults + [value for value in node.args.kw_defaults if value is not None]:
            if not isinstance(default, (ast.Constant, ast.UnaryOp, ast.Tuple)):
                yield ("L4", node.lineno, "a default value")
        returns = [below for below in ast.walk(node) if isinstance(below, ast.Return)]
        if node.name == "__init__" and returns:
            yield ("L28", node.lineno, "a return in __init__")
        if node.name in ("__len__", "__str__", "__repr__") and not isinstance(node.body[-1], ast.Return):
            yield ("L28", node.lineno, "the last statement is no return")
        for below in returns:
            if node.name == "__len__" and not ast.unparse(below.value).startswith("len("):
                yield ("L28", node.lineno, "what __len__ returns")
            if node.name in ("__str__", "__repr__") and not isinstance(below.value, ast.JoinedStr):
                yield ("L28", node.lineno, "what is written")
        if node.name == "__iter__" and len(node.body) != 1:
            yield ("L5", node.lineno, "__iter__ of more than one statement")


def check_purity(file, files):
    """L5: operators, properties and the like, and all that they call, change nothing but what they created."""
    reached = reached_by_operators(tuple(files))
    for node in file.all(ast.FunctionDef):
        if node in reached:
            for line, what in changes_of(file, node):
                yield ("L5", line, f"{node.name}, which an operator or a property runs, {what}")


def runs_by_itself(node):
    """Whether a function is a property, or a method that runs without being called by its name."""
    plain = [below.id for below in node.decorator_list if isinstance(below, ast.Name)]
    return plain == ["property"] or node.name in DUNDERS - {"__init__", "__setitem__", "__call__"}


@functools.lru_cache(maxsize=None)
def reached_by_operators(files):
    """The operators and properties of the package, and all functions and methods that they may call, by their names."""
    found = [(file, node) for file in files for node in file.all(ast.FunctionDef) if runs_by_itself(node)]
    for file, node in found:
        found.extend(pair for pair in called_by(file, node, files) if pair not in found)
    return [node for _, node in found]


def called_by(file, node, files):
    """The functions, constructors and methods of the package that a function may call, each with its file."""
    words = {below.id for below in ast.walk(node) if isinstance(below, ast.Name)} - set(bound_names(node))
    attributes = {below.attr for below in ast.walk(node) if isinstance(below, ast.Attribute)} - {"__init__"}
    found = []
    for other in files:
        known = words & set(other.top_names()) if other is file else words & set(names_from(file, other))
        for below in other.all(ast.FunctionDef):
            above = other.above[below]
            maker = below.name == "__init__" and above.name in known
            method = isinstance(above, ast.ClassDef) and below.name in attributes
            if maker or method or (above is other.tree and below.name in known):
                found.append((other, below))
    return found


def names_from(file, other):
    """The names that a file imports from another one."""
    nodes = [node for node in file.all(ast.ImportFrom) if node.module == f"whichdepot.{other.name[:-3]}"]
    return [alias.name for node in nodes for alias in node.names]


def changes_of(file, node):
    """What a function changes that it did not create, and other things that a property must not run."""
    created = created_names(node)
    own = node.args.args[0].arg if node.name == "__init__" else None
    for below in ast.walk(node):
        owner = None
        if isinstance(below, (ast.Yield, ast.YieldFrom)):
            yield (below.lineno, "yields")
        if isinstance(below, ast.Attribute) and not isinstance(below.ctx, ast.Load):
            if not (isinstance(below.value, ast.Name) and below.value.id == own):
                yield (below.lineno, "assigns an attribute")
        if isinstance(below, ast.Subscript) and not isinstance(below.ctx, ast.Load):
            owner = below.value
        if isinstance(below, ast.Call) and isinstance(below.func, ast.Attribute) and below.func.attr in CHANGING:
            owner = below.func.value
        if owner is not None and not (isinstance(owner, ast.Name) and owner.id in created):
            yield (below.lineno, "changes what it did not create")
        if isinstance(below, ast.AugAssign) and isinstance(below.target, ast.Name):
            if not isinstance(below.value, ast.Constant) or not isinstance(below.op, (ast.Add, ast.Sub, ast.FloorDiv)):
                yield (below.lineno, "adds to a variable what is no literal")
        if isinstance(below, ast.Call) and isinstance(below.func, ast.Name) and below.func.id in bound_names(node):
            yield (below.lineno, "calls what it is passed")


def created_names(node):
    """The local variables of a function that are only ever assigned lists and dicts that it creates."""
    values = {}
    for below in ast.walk(node):
        if isinstance(below, ast.Assign):
            for target in below.targets:
                if isinstance(target, ast.Name):
                    values.setdefault(target.id, []).append(below.value)
    made = {name for name, listed in values.items() if all(creates(value) for value in listed)}
    targets = [below.target for below in ast.walk(node) if isinstance(below, (ast.For, ast.comprehension))]
    targets += [target for below in ast.walk(node) if isinstance(below, ast.Assign) for target in below.targets
                if not isinstance(target, ast.Name)]
    other = {below.id for target in targets for below in ast.walk(target) if isinstance(below, ast.Name)}
    return made - other - {argument.arg for argument in ast.walk(node) if isinstance(argument, ast.arg)}


def creates(value):
    """Whether a value is a new list or dict, as the code shows."""
    if isinstance(value, (ast.List, ast.Dict, ast.ListComp, ast.DictComp)):
        return True
    if isinstance(value, ast.Call) and isinstance(value.func, ast.Name):
        return value.func.id in ("list", "dict", "sorted")
    return isinstance(value, ast.Subscript) and isinstance(value.slice, ast.Slice)


def check_calls(file, files):
    """L22, L23, L25: what is called, and where."""
    own = {node.name for other in files for node in other.all(ast.FunctionDef, ast.ClassDef)}
    yielding = {node.name for other in files for node in other.all(ast.FunctionDef)
                if any(isinstance(below, (ast.Yield, ast.YieldFrom)) for below in ast.walk(node))}
    for node in file.all(ast.Call):
        name = node.func.id if isinstance(node.func, ast.Name) else None
        word = node.func.attr if isinstance(node.func, ast.Attribute) else None
        if word is not None and word not in own | VALUE_METHODS | {"__init__"}:
            yield ("L25", node.lineno, word)
        if word == "sort":
            yield ("L25", node.lineno, "sort beside __eq__")
        allowed = {"sorted": {"key", "reverse"}, "min": {"key", "default"}, "max": {"key", "default"},
                   "sum": {"start"}, "enumerate": {"start"}, "zip": {"strict"}}
        if name in BUILTINS and any(keyword.arg not in allowed.get(name, ()) for keyword in node.keywords):
            yield ("L22", node.lineno, "a keyword of a builtin")
        if word in VALUE_METHODS - own and node.keywords:
            yield ("L25", node.lineno, "a keyword of a method of a builtin value")
        if (name in ONCE or word in VIEWS or name in yielding or word in yielding) and not iterated(file, node):
            yield ("L23", node.lineno, f"{name or word} is not iterated at once")
        if name == "reversed" and not re.match(r"reversed\((list|tuple|sorted|range)\(", ast.unparse(node)):
            yield ("L5", node.lineno, "reversed over something else")
    for node in file.all(ast.Name):
        if node.id in yielding and not isinstance(file.above[node], ast.Call):
            yield ("L23", node.lineno, "a generator as a value")


def check_generators(file, files):
    """L23: a generator has a name of its own, and returns no value."""
    names = [node.name for other in files for node in other.all(ast.FunctionDef)]
    for node in file.all(ast.FunctionDef):
        below = list(ast.walk(node))
        if any(isinstance(one, (ast.Yield, ast.YieldFrom)) for one in below):
            if names.count(node.name) > 1 or node.name in VALUE_METHODS:
                yield ("L23", node.lineno, "another function has the name of a generator")
            if any(isinstance(one, ast.Return) and one.value is not None for one in below):
                yield ("L23", node.lineno, "a generator that returns a value")
            if node.decorator_list or node.name in DUNDERS:
                yield ("L23", node.lineno, "a generator with a decorator or with two underscores")


def iterated(file, node):
    """Whether a call stands where it is iterated at once."""
    above = file.above[node]
    if isinstance(above, (ast.For, ast.comprehension, ast.YieldFrom)):
        return True
    if not isinstance(above, ast.Call) or above.args[:1] != [node] and not (
            isinstance(above.func, ast.Name) and above.func.id == "zip" and node in above.args):
        return False
    if isinstance(above.func, ast.Name):
        return above.func.id in TAKERS or (above.func.id in ("min", "max") and len(above.args) == 1)
    return above.func.attr == "join"


def check_sets(file, files):
    """L24: sets stand directly in sorted or len, or after in."""
    for node in file.all(ast.Set, ast.SetComp, ast.Call):
        if isinstance(node, ast.Call) and not (isinstance(node.func, ast.Name) and node.func.id in ("set", "frozenset")):
            continue
        above = file.above[node]
        direct = isinstance(above, ast.Call) and isinstance(above.func, ast.Name) and above.func.id in ("sorted", "len")
        if not direct or above.keywords:
            yield ("L24", node.lineno, "a set that stands elsewhere")


def check_loops(file, files):
    """L23: what a loop iterates over is not changed in it."""
    for node in file.all(ast.For):
        names = {below.id for below in ast.walk(node.iter) if isinstance(below, ast.Name)}
        for row in node.body:
            for below in ast.walk(row):
                owner = None
                if isinstance(below, ast.Call) and isinstance(below.func, ast.Attribute):
                    if below.func.attr in CHANGING:
                        owner = below.func.value
                if isinstance(below, ast.Subscript) and not isinstance(below.ctx, ast.Load):
                    owner = below.value
                if isinstance(owner, ast.Name) and owner.id in names:
                    yield ("L23", below.lineno, f"{owner.id} is changed in a loop over it")


def check_members(file, files):
    """L18, L26: names of methods, attributes and properties in all classes."""
    classes = [node for other in files for node in other.all(ast.ClassDef)]
    methods, special, assigned = set(), set(), set()
    for owner in classes:
        for below in owner.body:
            if isinstance(below, ast.FunctionDef):
                (special if below.decorator_list else methods).add(below.name)
        for below in ast.walk(owner):
            if isinstance(below, ast.Attribute) and isinstance(below.ctx, ast.Store):
                assigned.add(below.attr)
    values = {target.id for owner in classes for below in owner.body if isinstance(below, ast.Assign)
              for target in below.targets}
    for name in sorted(special & (methods | values)):
        yield ("L5", 0, f"{name} is a property or a class method, and a method or a class value")
    for name in sorted(assigned & (methods | special | values | NO_ATTRIBUTES)):
        yield ("L18", 0, f"{name} is an attribute and something else")
    for name in sorted((methods | special) & {"keys", "items", "values", "sort", "format"}):
        yield ("L26", 0, name)
    builtin_names = {name for value in ("", 0, [], {}, (), set(), b"") for name in dir(value)}
    for name in sorted((assigned | special) & builtin_names - {"count", "index", "title", "find", "get", "copy"}):
        yield ("L26", 0, name)
    for node in file.all(ast.Attribute):
        known = methods | special | assigned | values | VALUE_METHODS | {"__init__"}
        if node.attr not in known and not is_setter(file.above[node]):
            yield ("L18", node.lineno, f"{node.attr} is assigned by no class")
        if isinstance(node.ctx, ast.Store) and not isinstance(node.value, ast.Name):
            yield ("L18", node.lineno, "an attribute that is not assigned through a local name")


def check_classes_as_values(file, files):
    """L18, L22: classes and builtins are not kept as values."""
    own = {node.name for other in files for node in other.all(ast.ClassDef)}
    for node in file.all(ast.Name):
        if not isinstance(node.ctx, ast.Load) or node.id not in own | (BUILTINS - {"NotImplemented"}):
            continue
        above = file.above[node]
        called = isinstance(above, ast.Call) and above.func is node
        asked = isinstance(above, ast.Call) and isinstance(above.func, ast.Name) and above.func.id == "isinstance"
        key = isinstance(above, ast.keyword) and above.arg == "key"
        if not (called or asked or key or isinstance(above, (ast.ClassDef, ast.Attribute, ast.ExceptHandler))):
            if not (isinstance(above, ast.FunctionDef) and node in above.decorator_list):
                yield ("L18", node.lineno, f"{node.id} as a value")


CHECKS = [
    check_text, check_file_name, check_imports, check_module_level, check_names, check_statements, check_definitions,
    check_purity, check_calls, check_generators, check_sets, check_loops, check_members, check_classes_as_values,
]


def findings(files):
    """All that is wrong in the files: name of the file, line, rule, and what is wrong."""
    return [(file.name, line, rule, what) for file in files for check in CHECKS for rule, line, what in check(file, files)]


BROKEN = [
    ("L2", "from os.path import join\n"), ("L16", "import whichdepot\n"), ("L2", "from . import networks\n"),
    ("L16", "from whichdepot.good import missing\n"), ("L2", "LOW = 1\nfrom whichdepot.good import many\n"),
    ("L3", "LOW, HIGH = 0, 1\n"), ("L3", "print(1)\n"), ("L3", "LOW = len('a')\n"), ("L15", "LOW = 1\nLOW = 2\n"),
    ("L4", "def low(at=[]):\n    return at\n"), ("L4", "@staticmethod\ndef low():\n    return 1\n"),
    ("L5", "class Low:\n    def __hash__(self):\n        return 1\n"), ("L6", "def low():\n    global HIGH\n"),
    ("L6", "def low(rows):\n    for [at] in rows:\n        return at\n"), ("L7", "def low(k):\n    return k / 2\n"),
    ("L7", "def low(k):\n    return 0.5\n"), ("L7", "def low(rows):\n    return any(row for row in rows)\n"),
    ("L8", "def low(rows):\n    return filter(None, rows)\n"), ("L8", "def low():\n    return high\n"),
    ("L10", "def low():\n" + "    pass\n" * 40), ("L10", "# a\n" * 400), ("L10", "# " + "a" * 119 + "\n"),
    ("L12", "def low__(a):\n    return _\n"), ("L14", "# \u00e9\n"), ("L14", "def low():\n\treturn 1\n"),
    ("L15", "from whichdepot.good import many\ndef low(many):\n    return many\n"),
    ("L15", "def low(id):\n    return id\n"), ("L15", "def low():\n    sum = 1\n    return sum\n"),
    ("L17", "def low(law):\n    return law\n"), ("L17", "def low():\n    return 'an enum'\n"),
    ("L18", "class Low:\n    pass\n\ndef low():\n    return [Low]\n"), ("L18", "def low(box):\n    return box.nowhere\n"),
    ("L19", "def low(error):\n    raise error\n"), ("L20", "def low(a, b):\n    return a is b\n"),
    ("L22", "def low(text):\n    return int(text, base=2)\n"), ("L23", "def low(a, b):\n    return zip(a, b)\n"),
    ("L23", "def low(row):\n    for at in row:\n        row.append(at)\n"),
    ("L23", "def steps(k):\n    yield k\n\ndef low(k):\n    return steps(k)\n"),
    ("L23", "def many(k):\n    yield k\n"), ("L23", "def steps(k):\n    yield k\n    return k\n"),
    ("L5", "class Low:\n    def __getitem__(self, at):\n        return at\n"),
    ("L24", "def low(row):\n    return set(row)\n"), ("L25", "def low(row):\n    return row.encode()\n"),
    ("L26", "class Low:\n    def __init__(self):\n        self.real = 1\n"),
    ("L27", "def low(k):\n    return 'a % b'\n"), ("L27", "def low(k):\n    return 2 ** k\n"),
    ("L28", "class Low:\n    def __len__(self):\n        return self.many() + 1\n\n    def many(self):\n        return 1\n"),
    ("L5", "class Low:\n    @property\n    def many(self):\n        self.found = 1\n        return 1\n"),
    ("L5", "class Low:\n    @property\n    def low(self):\n        return high(1)\n\n\n"
           "def high(k):\n    return list(steps(k))\n\n\ndef steps(k):\n    yield k\n"),
    ("L5", "class Low:\n    def __eq__(self, other):\n        return high([1]) == 1\n\n\n"
           "def high(rows):\n    rows.append(1)\n    return 1\n"),
    ("L5", "class Low:\n    def __add__(self, other):\n        return self.high(other)\n\n"
           "    def high(self, other):\n        total = 1\n        total += other\n        return total\n"),
    ("L5", "class Low:\n    def __mul__(self, other):\n        return other(1)\n"),
    ("L4", "class Low:\n    def many(self):\n        return 1\n\n    @other.setter\n    def many(self, value):\n"
           "        pass\n"),
    ("L19", "def low(row):\n    try:\n        return high(row)\n    except ValueError:\n        return 1\n\n\n"
            "def high(row):\n    return row\n"),
    ("L6", "def low(row):\n    try:\n        return len(row)\n    finally:\n        pass\n"),
]


class Language(unittest.TestCase):

    def test_the_package(self):
        self.assertEqual(findings(package_files()), [])

    def test_the_folder(self):
        found = [name for name in os.listdir(FOLDER) if name != "__pycache__"]
        self.assertTrue(all(name.endswith(".py") for name in found))
        self.assertIn("__init__.py", found)

    def test_python_gives_no_warning(self):
        with warnings.catch_warnings():
            warnings.simplefilter("error")
            for file in package_files():
                compile(file.text, file.name, "exec")

    def test_broken_rules_are_found(self):
        good = File("good.py", "def many(rows):\n    return len(rows)\n")
        self.assertEqual(findings([good]), [])
        for rule, text in BROKEN:
            rules = [found[2] for found in findings([good, File("bad.py", text)]) if found[0] == "bad.py"]
            self.assertIn(rule, rules, text)

    def test_circles_are_found(self):
        one = File("one.py", "from whichdepot.two import low\n\ndef high():\n    return low()\n")
        two = File("two.py", "from whichdepot.one import high\n\ndef low():\n    return high()\n")
        self.assertIn("L16", [found[2] for found in findings([one, two])])

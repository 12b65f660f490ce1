"""A plain look at the package's files by the rows L14 to L28 of its language, each row one function.

A row takes a dict from file names to texts and tells faults as tuples (file name, line).
"""

import ast
import builtins
import re
import types

PYTHONS_OWN = dir(builtins)
FUNCTIONS = (
    "len range enumerate zip min max sum abs sorted reversed isinstance ord repr any all divmod print"
).split()
KINDS = "int str bool list tuple dict set frozenset".split()
ERRORS = (
    "Exception ValueError TypeError KeyError IndexError LookupError ZeroDivisionError ArithmeticError "
    "OverflowError RuntimeError NotImplementedError AttributeError StopIteration"
).split()
METHODS = (
    "append clear copy count endswith extend find get index insert isalnum isalpha isdigit islower isspace "
    "isupper items join keys ljust lower lstrip partition pop remove replace reverse rfind rjust rpartition "
    "rsplit rstrip setdefault split splitlines startswith strip update upper values zfill bit_length"
).split()
CHANGING = "append clear extend insert pop remove reverse setdefault update".split()
DUNDERS = "__init__ __eq__ __repr__ __str__ __len__".split()
KINDS_METHODS = {name for kind in (str, int, list, dict, set, bytes, tuple) for name in dir(kind)}
FREE_VALUES = "count index title find get join lower upper split strip copy add".split()
NO_FILES = "test tests testing site conftest sitecustomize usercustomize".split() + (
    "type typing typing_extensions enum namedtuple abstractmethod dataclass overload contextmanager"
).split()
NOWHERE = "register mro elements open input version_info with_traceback add_note".split() + [
    name for kind in (types.FrameType, types.TracebackType, types.CodeType, types.GeneratorType)
    for name in dir(kind) if re.match("(f|tb|co|gi)_", name)
]
NO_NAMES = (
    "attrgetter breakpoint builtins compile copyright credits delattr dir eval exec exit gc getattr globals hasattr "
    "help id importlib license locals methodcaller os quit setattr super type vars sys __name__ chr"
).split()
WALKED = "zip enumerate reversed range".split()
WALKED_METHODS = "items keys values".split()
WALKERS = "list tuple dict sorted sum any all enumerate zip".split()
KEYWORDS = {
    "sorted": ("key", "reverse"), "min": ("key", "default"), "max": ("key", "default"),
    "sum": ("start",), "enumerate": ("start",), "zip": ("strict",),
}
KEY_VALUES = "len int str abs sum min max tuple".split()


class File:
    def __init__(self, name, text):
        self.name, self.text, self.tree = name, text, ast.parse(text)
        self.nodes = list(ast.walk(self.tree))
        self.parents = {child: node for node in self.nodes for child in ast.iter_child_nodes(node)}

    def parent(self, node):
        return self.parents.get(node)

    def all(self, *kinds):
        return [node for node in self.nodes if isinstance(node, kinds)]

    def imported(self):
        return [name.asname or name.name for node in self.all(ast.ImportFrom) for name in node.names]

    def defined(self):
        """The names bound at the file's top, as often as they are bound, but for imports."""
        names = []
        for node in self.tree.body:
            if isinstance(node, (ast.FunctionDef, ast.ClassDef)):
                names.append(node.name)
            elif isinstance(node, ast.Assign):
                names.extend(name.id for name in ast.walk(node) if is_stored(name))
        return names

    def faults(self, nodes):
        return [(self.name, getattr(node, "lineno", 0)) for node in nodes]


def is_stored(node):
    return isinstance(node, ast.Name) and isinstance(node.ctx, ast.Store)


def called(node):
    """The name of Python's own or of a def that is called, else nothing."""
    return node.func.id if isinstance(node, ast.Call) and isinstance(node.func, ast.Name) else ""


def method(node):
    return node.func.attr if isinstance(node, ast.Call) and isinstance(node.func, ast.Attribute) else ""


def looked(files):
    return [File(name, text) for name, text in sorted(files.items())]


def by_file(row):
    """A row that looks at each file by itself, with the names of all classes of the package."""
    def over_all(files):
        them = looked(files)
        classes = [node.name for file in them for node in file.all(ast.ClassDef)]
        return [fault for file in them for fault in file.faults(row(file, classes))]
    over_all.__name__ = row.__name__
    return over_all


@by_file
def row_14(file, classes):
    stem = file.name.removesuffix(".py")
    plain = re.fullmatch("[a-z0-9_]+", stem) and file.name.endswith(".py") and re.fullmatch(r"[ -~\n]*", file.text)
    bad = stem in NO_FILES or stem.startswith("test_") or stem in PYTHONS_OWN or not plain
    return [file.tree] if bad else []


def only_read(file, node):
    """Whether a list or dict of the file's top is only read where this name stands."""
    parent = file.parent(node)
    if isinstance(parent, ast.Subscript):
        return isinstance(parent.ctx, ast.Load)
    if isinstance(parent, (ast.For, ast.comprehension)):
        return parent.iter is node
    if isinstance(parent, ast.Attribute):
        return parent.attr in ("get", "index", "count", "copy", "items", "keys", "values")
    return isinstance(parent, ast.Compare) or called(parent) in FUNCTIONS + ["list", "tuple", "dict", "set"]


@by_file
def row_15(file, classes):
    bad = [node for node in file.all(ast.ClassDef) if file.parent(node) is not file.tree]
    bound = file.imported() + file.defined()
    bad = bad + [file.tree for name in set(bound) if bound.count(name) > 1]
    kept = [node for node in file.tree.body if isinstance(node, ast.Assign)]
    kept = [node for node in kept if isinstance(node.value, (ast.List, ast.Dict))]
    for node in kept:
        bad = bad + [inner for inner in ast.walk(node.value)
                     if isinstance(inner, (ast.List, ast.Dict)) and inner is not node.value]
    names = [node.targets[0].id for node in kept]
    bad = bad + [node for node in file.all(ast.Name)
                 if node.id in names and not is_stored(node) and not only_read(file, node)]
    taken = PYTHONS_OWN + file.imported() + [node.name for node in file.all(ast.ClassDef)]
    bad = bad + [node for node in file.all(ast.Name) if is_stored(node) and node.id in taken]
    return bad + [node for node in file.all(ast.arg) if node.arg in taken]


def row_16(files):
    them = looked(files)
    stems = {file.name.removesuffix(".py"): file for file in them}
    bad = [fault for file in them if file.name != "__main__.py" for fault in file.faults(file.all(ast.Import))]
    draws = {}
    for stem, file in stems.items():
        draws[stem] = ["__init__"] if "__init__" in stems and stem != "__init__" else []
        for node in file.all(ast.ImportFrom):
            source = (node.module or "").removeprefix("sumshare.")
            if node.module == "__future__":
                continue
            known = stems[source].defined() if node.level == 0 and source in stems and source != node.module else []
            if not all(name.name in known for name in node.names):
                bad.extend(file.faults([node]))
            draws[stem].append(source)
    for turn in stems:
        # What draws from nothing that is left can be in no ring.
        draws = {stem: [one for one in draws[stem] if one in draws] for stem in draws}
        draws = {stem: left for stem, left in draws.items() if left}
    bad.extend((stem + ".py", 0) for stem in draws)
    for file in them:
        if file.name == "__init__.py":
            theirs = set(stems) | {name for other in them if other is not file for name in other.defined()}
            bad.extend((file.name, 0) for name in file.imported() + file.defined() if name in theirs)
    return bad


@by_file
def row_17(file, classes):
    own = [(node, node.name) for node in file.all(ast.FunctionDef, ast.ClassDef)]
    own = own + [(node, node.arg) for node in file.all(ast.arg)] + [(node, node.id) for node in file.all(ast.Name)]
    allowed = ("sys", "__name__") if file.name == "__main__.py" else ()
    bad = [node for node, name in own if name in NOWHERE or (name in NO_NAMES and name not in allowed)]
    return bad + [node for node in file.all(ast.Attribute) if node.attr in NOWHERE]


def class_may_stand(file, node):
    parent = file.parent(node)
    if isinstance(parent, ast.Tuple):
        parent = file.parent(parent)
    if isinstance(parent, ast.Call):
        return parent.func is node or called(parent) == "isinstance"
    if isinstance(parent, ast.Attribute):
        return parent.attr == "__init__"
    return isinstance(parent, (ast.ClassDef, ast.ExceptHandler, ast.Raise))


def row_18(files):
    them = looked(files)
    classes = [node for file in them for node in file.all(ast.ClassDef)]
    names = [node.name for node in classes]
    methods = [inner.name for node in classes for inner in node.body if isinstance(inner, ast.FunctionDef)]
    bad = []
    for file in them:
        shown = [node for node in file.all(ast.Name) if node.id in names + ERRORS]
        bad.extend(file.faults([node for node in shown if not class_may_stand(file, node)]))
        top = file.defined() + file.imported()
        stored = [node for node in file.all(ast.Attribute) if isinstance(node.ctx, ast.Store)]
        bad.extend(file.faults([
            node for node in stored
            if not isinstance(node.value, ast.Name) or node.value.id in top or node.attr in methods
        ]))
        for node in file.all(ast.ClassDef):
            inner = [one.name for one in node.body if isinstance(one, ast.FunctionDef)]
            bases = [getattr(base, "id", "") for base in node.bases]
            told = [name for name in names + ERRORS if name not in ("StopIteration", "AttributeError")]
            wrong = [base for base in bases if base not in told]
            if len(inner) != len(set(inner)) or wrong:
                bad.extend(file.faults([node]))
    return bad


def names_taken(handler):
    them = handler.type.elts if isinstance(handler.type, ast.Tuple) else [handler.type]
    return [getattr(one, "id", "") for one in them]


def try_is_narrow(node, caught):
    calls = ("int", "str") if "IndexError" not in caught else ()
    methods = ("index", "remove") if "IndexError" not in caught else ()
    for inner in [one for line in node.body for one in ast.walk(line)]:
        if isinstance(inner, ast.Call) and called(inner) not in calls and method(inner) not in methods:
            return False
        if isinstance(inner, (ast.JoinedStr, ast.Slice, ast.Lambda)):
            return False
        if isinstance(inner, (ast.Mult, ast.Pow, ast.Mod, ast.LShift, ast.RShift)):
            return False
    return True


@by_file
def row_19(file, classes):
    bad = []
    for node in file.all(ast.Raise):
        cause = node.cause is None or isinstance(node.cause, ast.Name) or ast.unparse(node.cause) == "None"
        if called(node.exc) not in classes + ERRORS or not cause:
            bad.append(node)
    free = classes + ["KeyError", "ZeroDivisionError", "StopIteration"]
    for node in file.all(ast.Try):
        caught = [name for handler in node.handlers for name in names_taken(handler)]
        narrow = [name for name in caught if name in ("ValueError", "LookupError", "IndexError")]
        others = [name for name in caught if name not in free + narrow]
        if others or (narrow and not try_is_narrow(node, narrow)):
            bad.append(node)
    return bad


@by_file
def row_20(file, classes):
    bad = []
    for node in file.all(ast.Compare):
        sides = [node.left] + node.comparators
        for place, sign in enumerate(node.ops):
            beside = [ast.unparse(side) for side in sides[place:place + 2]]
            if isinstance(sign, (ast.Is, ast.IsNot)) and not set(beside) & {"None", "True", "False"}:
                bad.append(node)
    return bad


@by_file
def row_21(file, classes):
    bad = [node for node in file.all(ast.FunctionDef) if node.returns]
    return bad + [node for node in file.all(ast.arg) if node.annotation] + file.all(ast.AnnAssign)


def kept_as_value(file, node):
    parent = file.parent(node)
    if isinstance(parent, ast.Call) and parent.func is node:
        return False
    if isinstance(parent, ast.keyword):
        return parent.arg != "key" or node.id not in KEY_VALUES
    within = file.parent(parent) if isinstance(parent, ast.Tuple) else parent
    return called(within) != "isinstance"


def keywords_are_told(node):
    name = called(node)
    for keyword in node.keywords:
        if keyword.arg not in KEYWORDS.get(name, ()):
            return False
        if keyword.arg in ("reverse", "strict") and ast.unparse(keyword.value) not in ("True", "False"):
            return False
    return True


@by_file
def row_22(file, classes):
    bad = [node for node in file.all(ast.Name) if node.id in FUNCTIONS + KINDS and kept_as_value(file, node)]
    for node in file.all(ast.Call):
        if called(node) == "isinstance":
            asked = node.args[1].elts if isinstance(node.args[1], ast.Tuple) else [node.args[1]]
            told = KINDS[:6] + classes + ERRORS
            bad.extend(one for one in asked if getattr(one, "id", "") not in told)
        pythons = called(node) in FUNCTIONS + KINDS + ERRORS + classes or method(node) in METHODS
        if pythons and not keywords_are_told(node):
            bad.append(node)
    return bad


def walked_on_the_spot(file, node):
    parent = file.parent(node)
    if isinstance(parent, (ast.For, ast.comprehension)):
        return parent.iter is node
    if called(parent) in WALKERS:
        return parent.args[:1] == [node]
    if called(parent) in ("min", "max"):
        return parent.args == [node]
    return method(parent) == "join" and isinstance(parent.func.value, ast.Constant)


def things_walked(walk):
    """The values that a loop walks, as they are written."""
    if called(walk) in ("enumerate", "zip", "reversed"):
        return [text for part in walk.args for text in things_walked(part)]
    if method(walk) in WALKED_METHODS:
        return things_walked(walk.func.value)
    return [] if isinstance(walk, ast.Call) else [ast.unparse(walk)]


def changes(node, texts):
    if isinstance(node, (ast.Assign, ast.AugAssign)):
        targets = node.targets if isinstance(node, ast.Assign) else [node.target]
        indexed = [ast.unparse(one.value) for one in targets if isinstance(one, ast.Subscript)]
        added = [ast.unparse(one) for one in targets] if isinstance(node, ast.AugAssign) else []
        return bool(set(indexed + added) & set(texts))
    return method(node) in CHANGING and ast.unparse(node.func.value) in texts


@by_file
def row_23(file, classes):
    walks = [node for node in file.all(ast.Call) if called(node) in WALKED or method(node) in WALKED_METHODS]
    bad = [node for node in walks if not walked_on_the_spot(file, node)]
    for loop in file.all(ast.For):
        texts = things_walked(loop.iter)
        bad.extend(node for line in loop.body for node in ast.walk(line) if changes(node, texts))
    return bad


def is_set(node):
    if isinstance(node, ast.BinOp):
        return is_set(node.left) or is_set(node.right)
    return isinstance(node, ast.Set) or called(node) in ("set", "frozenset")


def set_may_stand(file, node):
    parent = file.parent(node)
    if isinstance(parent, ast.BinOp):
        return isinstance(parent.op, (ast.Sub, ast.BitAnd, ast.BitOr, ast.BitXor)) and set_may_stand(file, parent)
    if isinstance(parent, ast.Compare) and len(parent.ops) == 1:
        if isinstance(parent.ops[0], (ast.Eq, ast.NotEq)):
            return is_set(parent.left) and is_set(parent.comparators[0])
        return isinstance(parent.ops[0], (ast.In, ast.NotIn)) and parent.comparators[0] is node
    return called(parent) in ("sorted", "len") and not parent.keywords


@by_file
def row_24(file, classes):
    sets = [node for node in file.all(ast.Call, ast.Set) if is_set(node)]
    return [node for node in sets if not set_may_stand(file, node)]


def own_methods(them):
    return [one.name for file in them for node in file.all(ast.ClassDef)
            for one in node.body if isinstance(one, ast.FunctionDef)]


def own_values(them):
    return [node.attr for file in them for node in file.all(ast.Attribute) if isinstance(node.ctx, ast.Store)]


def row_25(files):
    them = looked(files)
    own, values = own_methods(them), own_values(them)
    bad = []
    for file in them:
        calls = [node.func for node in file.all(ast.Call) if method(node)]
        bad.extend(file.faults([node for node in calls if node.attr not in METHODS + own]))
        kept = [node for node in file.all(ast.Attribute) if node.attr in METHODS + own and node not in calls]
        kept = [node for node in kept if node.attr not in values]
        bad.extend(file.faults([node for node in kept if getattr(file.parent(node), "arg", "") != "key"]))
    return bad


def row_26(files):
    them = looked(files)
    bad = [name for name in own_methods(them)
           if name in KINDS_METHODS and name not in METHODS + DUNDERS + ["add", "discard"]]
    bad = bad + [name for name in own_values(them)
                 if (name in KINDS_METHODS or name == "args") and name not in FREE_VALUES]
    return [(name, 0) for name in bad]


def plain_braces(node):
    return isinstance(node.value, ast.Name) and node.format_spec is None and node.conversion in (-1, ord("r"))


@by_file
def row_27(file, classes):
    bad = []
    for node in file.all(ast.BinOp):
        exponent = getattr(node.right, "value", None)
        if isinstance(node.op, ast.Pow) and not (isinstance(exponent, int) and 0 <= exponent <= 64):
            bad.append(node)
    for node in file.all(ast.Constant):
        if isinstance(node.value, str) and ("%" in node.value or has_escape(file, node)):
            bad.append(node)
        if isinstance(node.value, int) and node.value >= 10 ** 900:
            bad.append(node)
    return bad + [node for node in file.all(ast.FormattedValue) if not plain_braces(node)]


def has_escape(file, node):
    written = ast.get_source_segment(file.text, node) or ""
    return re.search(r"""\\[^nt\\'"]""", written.replace("\\\\", "")) is not None


def returned_is_told(name, value):
    if name == "__len__":
        return called(value) == "len" or isinstance(value, ast.Constant)
    if name in ("__repr__", "__str__"):
        text = isinstance(value, ast.JoinedStr) or isinstance(getattr(value, "value", None), str)
        return text or called(value) in ("str", "repr") or method(value) == "join"
    return value is None if name == "__init__" else True


@by_file
def row_28(file, classes):
    bad = []
    for node in file.all(ast.FunctionDef):
        if node.name not in DUNDERS:
            continue
        inner = list(ast.walk(node))
        bad.extend(one for one in inner if isinstance(one, ast.Return) and not returned_is_told(node.name, one.value))
        if node.name != "__init__":
            bad.extend(one for one in inner if isinstance(one, ast.AugAssign) or method(one) in CHANGING)
            bad.extend(one for one in inner if isinstance(one, (ast.Attribute, ast.Subscript))
                       and isinstance(one.ctx, ast.Store))
    return bad


ROWS = (
    row_14, row_15, row_16, row_17, row_18, row_19, row_20, row_21, row_22, row_23, row_24, row_25, row_26, row_27,
    row_28,
)

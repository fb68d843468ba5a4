"""Reads the files of the package and tells what breaks the rules of the language, as far as it sees them."""

import ast
import builtins
import os
import re

ROOT = os.path.dirname(os.path.dirname(os.path.abspath(__file__)))
PACKAGE = os.path.join(ROOT, "monicsums")

BUILTINS = set(
    "len range enumerate zip min max sum abs sorted reversed int str bool list tuple dict set isinstance ord repr"
    " any all divmod iter next super property NotImplemented ValueError TypeError KeyError IndexError LookupError"
    " ZeroDivisionError ArithmeticError OverflowError RuntimeError NotImplementedError Exception".split()
)
METHODS = set(
    "append clear copy count endswith extend find get index insert isalnum isalpha isdigit islower isspace isupper"
    " items join keys ljust lower lstrip partition pop remove replace reverse rfind rjust rpartition rsplit rstrip"
    " setdefault split splitlines startswith strip update upper values zfill bit_length".split()
)
DUNDERS = set(
    "__init__ __eq__ __str__ __len__ __call__ __iter__ __add__ __sub__ __mul__ __floordiv__ __mod__ __pow__"
    " __bool__ __neg__ __contains__".split()
)
# Methods of builtin values that modify.
CHANGES = set("append clear extend insert pop remove reverse setdefault sort update".split())
BANNED_NODES = (
    ast.AsyncFunctionDef, ast.Await, ast.AsyncFor, ast.AsyncWith, ast.Global, ast.Nonlocal, ast.GeneratorExp,
    ast.Yield, ast.YieldFrom, ast.Set, ast.SetComp, ast.Div, ast.MatMult, ast.AnnAssign, ast.Import,
    ast.Lambda, ast.With, ast.Assert, ast.Delete, ast.Starred, ast.Match,
)
BANNED_NAMES = set(
    "register mro elements open input law version_info with_traceback add_note attrgetter breakpoint builtins"
    " compile copyright credits delattr dir eval exec exit gc getattr globals hasattr help id importlib license"
    " locals methodcaller os quit setattr vars sys type typing enum".split()
)
BANNED_WORDS = re.compile(
    r"\b(type|typing|typing_extensions|enum|Enum|IntEnum|StrEnum|Flag|IntFlag|Generic|Protocol|ABC|ABCMeta"
    r"|namedtuple|NamedTuple|TypedDict|TYPE_CHECKING|abstractmethod)\b|dataclass|overload|contextmanager|_wall|_WallAttr"
)
LIBRARY = {"heapq", "math", "itertools", "collections"}
PLAIN = (ast.Constant, ast.Tuple, ast.List, ast.Dict)
# The errors of the package: others are not caught.
ERRORS = set(
    "MonicError InvalidField InvalidPolynomial InvalidQuotient InvalidParting InvalidRow InvalidName InvalidOperation"
    " ParseError InvalidNumber UnknownName NothingToUndo TooMany Refused".split()
)


def files():
    """The paths of all files of the package, from the top of the project on."""
    found = []
    for folder, folders, names in os.walk(PACKAGE):
        folders[:] = sorted(one for one in folders if one != "__pycache__")
        found.extend(os.path.relpath(os.path.join(folder, name), ROOT) for name in sorted(names))
    return found


def module_of(path):
    """The full name of the module in a file."""
    name = path[:-3].replace(os.sep, ".")
    return name[:-len(".__init__")] if name.endswith(".__init__") else name


def text_of(path):
    with open(os.path.join(ROOT, path), encoding="ascii") as file:
        return file.read()


def without_comments(text, tree):
    """The lines of a file without docstrings and comments."""
    lines = text.split("\n")
    for node in ast.walk(tree):
        if isinstance(node, (ast.Module, ast.ClassDef, ast.FunctionDef)) and ast.get_docstring(node) is not None:
            for at in range(node.body[0].lineno - 1, node.body[0].end_lineno):
                lines[at] = ""
    return "\n".join(re.sub(r"(^|  )#.*", "", line) for line in lines)


def is_builtin(name):
    return hasattr(builtins, name) and not name.startswith("__")


def own_methods():
    """The names of the methods of the classes of the package."""
    boxes = [node for tree in trees().values() for node in tree.body if isinstance(node, ast.ClassDef)]
    return {node.name for box in boxes for node in box.body if isinstance(node, ast.FunctionDef)}


def is_plain(node, names=()):
    """Whether an expression at module level is a plain value, or of the functions with these names."""
    if isinstance(node, ast.UnaryOp):
        return isinstance(node.op, ast.USub) and isinstance(node.operand, ast.Constant)
    if isinstance(node, ast.Constant):
        return not isinstance(node.value, float)
    if isinstance(node, ast.Name):
        return node.id in names
    if isinstance(node, ast.Dict):
        return all(is_plain(one) for one in node.keys) and all(is_plain(one, names) for one in node.values)
    if isinstance(node, (ast.Tuple, ast.List)):
        return all(is_plain(one, names) for one in node.elts)
    return False


def top_level_faults(path, tree):
    """What may not stand at the level of a module."""
    bound, made = [], []
    for node in tree.body:
        if isinstance(node, ast.Expr) and isinstance(node.value, ast.Constant):
            continue
        if isinstance(node, (ast.FunctionDef, ast.ClassDef)):
            bound.append(node.name)
            made.append(node.name)
        elif isinstance(node, ast.ImportFrom):
            bound.extend(one.name for one in node.names)
            yield from import_faults(path, node)
        elif isinstance(node, ast.Assign) and len(node.targets) == 1 and is_plain(node.value, made):
            bound.append(node.targets[0].id)
        else:
            yield path, node.lineno, "L3 a statement at module level"
    for name in bound:
        if bound.count(name) > 1:
            yield path, 0, f"L15 {name} is bound twice"


def import_faults(path, node):
    if node.level or any(one.asname or one.name == "*" for one in node.names):
        yield path, node.lineno, "L2 the form of an import"
    if node.module.split(".")[0] != "monicsums":
        if node.module not in LIBRARY:
            yield path, node.lineno, f"L2 import of {node.module}"
        return
    names = [file for file in files() if module_of(file) == node.module]
    if not names:
        yield path, node.lineno, f"L16 {node.module} is no file"
        return
    tree = ast.parse(text_of(names[0]))
    own = [one.name for one in tree.body if isinstance(one, (ast.FunctionDef, ast.ClassDef))]
    own += [one.targets[0].id for one in tree.body if isinstance(one, ast.Assign)]
    for one in node.names:
        if one.name not in own:
            yield path, node.lineno, f"L16 {one.name} is not defined in {node.module}"


def names_bound_in(function):
    """The parameters and the local variables of a function."""
    names = [one.arg for one in function.args.args]
    for node in ast.walk(function):
        if isinstance(node, ast.Name) and isinstance(node.ctx, ast.Store):
            names.append(node.id)
    return names


def function_faults(path, tree):
    outside = []
    for node in tree.body:
        if isinstance(node, ast.ImportFrom):
            outside.extend(one.name for one in node.names)
        elif isinstance(node, (ast.ClassDef, ast.FunctionDef)):
            outside.append(node.name)
    for node in ast.walk(tree):
        if isinstance(node, (ast.FunctionDef, ast.ClassDef)) and is_builtin(node.name):
            yield path, node.lineno, f"L15 {node.name} is a builtin's name"
        if not isinstance(node, ast.FunctionDef):
            continue
        if node.end_lineno - node.lineno + 1 > 40:
            yield path, node.lineno, f"L10 {node.name} is too long"
        for one in node.decorator_list:
            if not (isinstance(one, ast.Name) and one.id == "property"):
                yield path, node.lineno, "L4 a decorator"
        if node.name.startswith("__") and node.name not in DUNDERS:
            yield path, node.lineno, f"L5 {node.name}"
        for name in names_bound_in(node):
            if is_builtin(name) or name in outside or name in BANNED_NAMES:
                yield path, node.lineno, f"L15 the name {name}"
        if ast.get_docstring(node) is None and not node.name.startswith("__"):
            yield path, node.lineno, f"{node.name} has no docstring"


def node_faults(own, node):
    """What may not stand anywhere; `own` has the names of the methods of the package."""
    if isinstance(node, BANNED_NODES):
        return f"{type(node).__name__} is not used here"
    if isinstance(node, ast.Constant) and isinstance(node.value, (float, complex, bytes)):
        return "L7 a number with a point, or bytes"
    if isinstance(node, ast.Constant) and isinstance(node.value, str) and ("%" in node.value):
        return "L27 the character for a rest in a string"
    if isinstance(node, ast.AugAssign):
        fine = isinstance(node.value, ast.Constant) and isinstance(node.value.value, int)
        if not (fine and isinstance(node.op, (ast.Add, ast.Sub)) and isinstance(node.target, ast.Name)):
            return "L5 an assignment with a sign"
    if isinstance(node, ast.BinOp) and isinstance(node.op, ast.Pow):
        return power_fault(node)
    if isinstance(node, ast.Compare):
        for sign, other in zip(node.ops, node.comparators):
            if isinstance(sign, (ast.Is, ast.IsNot)) and not isinstance(other, ast.Constant):
                return "L20 is"
    if isinstance(node, ast.ExceptHandler):
        caught = node.type.elts if isinstance(node.type, ast.Tuple) else [node.type]
        return None if all(is_name(one, ERRORS) for one in caught) else "L19 an error is caught"
    if isinstance(node, ast.Try):
        return "L6 a finally or an else" if node.finalbody or node.orelse else None
    if isinstance(node, ast.Call):
        return call_fault(own, node)
    return None


def power_fault(node):
    """A literal exponent up to 64, or the variable j over range(0, 3)."""
    if isinstance(node.right, ast.Constant) and 0 <= node.right.value <= 64:
        return None
    if isinstance(node.right, ast.Name) and node.right.id == "j":
        return None
    return "L27 an exponent"


def call_fault(own, node):
    if isinstance(node.func, ast.Attribute):
        if isinstance(node.func.value, ast.Call) and node.func.attr == "__init__":
            return None
        if node.func.attr not in METHODS and node.func.attr not in own:
            return f"L25 the method {node.func.attr}"
        if node.keywords:
            return "L25 a keyword of a method"
        return None
    if not isinstance(node.func, ast.Name):
        return "a call of what is no name"
    if is_builtin(node.func.id) and node.func.id not in BUILTINS:
        return f"L8 {node.func.id}"
    for word in node.keywords:
        if (node.func.id, word.arg) not in (("min", "default"), ("max", "default")):
            return f"L22 the keyword {word.arg}"
    return None


def circle_faults():
    """Files that import from each other (L16)."""
    graph = {}
    for path in files():
        tree = ast.parse(text_of(path))
        graph[module_of(path)] = [
            node.module for node in tree.body if isinstance(node, ast.ImportFrom) and node.module.startswith("monic")
        ]
    for start in graph:
        seen, waiting = set(), list(graph[start])
        while waiting:
            name = waiting.pop()
            if name == start:
                yield start, 0, "L16 a circle of imports"
                break
            if name not in seen:
                seen.add(name)
                waiting.extend(graph.get(name, []))


def unused_faults(path, tree):
    used = {node.id for node in ast.walk(tree) if isinstance(node, ast.Name)}
    for node in tree.body:
        if isinstance(node, ast.ImportFrom):
            for one in node.names:
                if one.name not in used:
                    yield path, node.lineno, f"{one.name} is imported, but not used"


def trees():
    """The dict from the modules to their trees."""
    return {module_of(path): ast.parse(text_of(path)) for path in files()}


def functions_of(known):
    """The dict from (module, name) to the function that is called by this name there, imported ones included."""
    own, found = {}, {}
    for module, tree in known.items():
        for node in tree.body:
            if isinstance(node, ast.FunctionDef):
                own[module, node.name] = found[module, node.name] = (module, node)
    for module, tree in known.items():
        for node in tree.body:
            if isinstance(node, ast.ImportFrom):
                for one in node.names:
                    if (node.module, one.name) in own:
                        found[module, one.name] = own[node.module, one.name]
    return found


def still_methods(known):
    """The operators, properties and other double-underscore methods that change nothing."""
    for module, tree in known.items():
        for box in tree.body:
            for node in box.body if isinstance(box, ast.ClassDef) else []:
                if isinstance(node, ast.FunctionDef):
                    dunder = node.name.startswith("__") and node.name not in ("__init__", "__call__")
                    if dunder or node.decorator_list:
                        yield module, node


def still_functions(known):
    """Those methods, and all functions that they call, through what these call, too."""
    called = functions_of(known)
    waiting = list(still_methods(known))
    seen = []
    while waiting:
        module, function = waiting.pop()
        if function in seen:
            continue
        seen.append(function)
        yield module, function
        for node in ast.walk(function):
            if isinstance(node, ast.Call) and isinstance(node.func, ast.Name):
                if (module, node.func.id) in called:
                    waiting.append(called[module, node.func.id])


def is_new_value(node):
    """Whether an expression surely is a new list or dict: a literal, a comprehension, or a copy."""
    if isinstance(node, ast.Call):
        return isinstance(node.func, ast.Name) and node.func.id in ("list", "dict", "sorted")
    return isinstance(node, (ast.List, ast.ListComp, ast.Dict, ast.DictComp))


def own_values(function):
    """The local variables that are assigned new lists and dicts alone, and those that are assigned calls alone."""
    values = {one.arg: [None] for one in function.args.args}
    for node in ast.walk(function):
        if isinstance(node, ast.Assign) and len(node.targets) == 1 and isinstance(node.targets[0], ast.Name):
            values.setdefault(node.targets[0].id, []).append(node.value)
        elif isinstance(node, (ast.Assign, ast.For, ast.AugAssign)):
            targets = node.targets if isinstance(node, ast.Assign) else [node.target]
            for one in [one for target in targets for one in ast.walk(target) if isinstance(one, ast.Name)]:
                if not isinstance(node, ast.Assign) or isinstance(one.ctx, ast.Store):
                    values.setdefault(one.id, []).append(None)
    new = [name for name in values if all(is_new_value(one) for one in values[name])]
    made = [name for name in values if all(isinstance(one, ast.Call) for one in values[name])]
    return new, made


def still_faults():
    """What an operator, a property or the like changes or calls, through what it calls, that it did not create."""
    for module, function in still_functions(trees()):
        new, made = own_values(function)
        names = names_bound_in(function)
        for node in ast.walk(function):
            wrong = False
            if isinstance(node, ast.Subscript) and not isinstance(node.ctx, ast.Load):
                wrong = isinstance(node.slice, ast.Slice) or not is_name(node.value, new)
            elif isinstance(node, ast.Attribute) and not isinstance(node.ctx, ast.Load):
                wrong = not is_name(node.value, made)
            elif isinstance(node, ast.Call) and isinstance(node.func, ast.Attribute):
                wrong = node.func.attr in CHANGES and not is_name(node.func.value, new)
            elif isinstance(node, ast.Call) and isinstance(node.func, ast.Name):
                wrong = node.func.id in names
            if wrong:
                yield module, node.lineno, f"L5 or L28 {function.name} changes or calls what it did not create"


def is_name(node, names):
    return isinstance(node, ast.Name) and node.id in names


def faults():
    """All that is seen to break a rule."""
    found = []
    own = own_methods()
    for path in files():
        if not re.fullmatch(r"[a-z0-9_/]+\.py", path.replace(os.sep, "/")):
            found.append((path, 0, "L1 the name of a file"))
            continue
        text = text_of(path)
        tree = ast.parse(text)
        lines = text.split("\n")
        if len(lines) > 400 or any(len(line) > 120 for line in lines) or re.search(r"[^ -~\n]", text):
            found.append((path, 0, "L10 or L14 size or characters"))
        if BANNED_WORDS.search(without_comments(text, tree)):
            found.append((path, 0, "L17 a word"))
        found.extend(top_level_faults(path, tree))
        found.extend(function_faults(path, tree))
        found.extend(unused_faults(path, tree))
        for node in ast.walk(tree):
            fault = node_faults(own, node)
            if fault is not None:
                found.append((path, getattr(node, "lineno", 0), fault))
    found.extend(circle_faults())
    found.extend(still_faults())
    return found

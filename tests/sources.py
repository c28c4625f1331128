"""What the tests of ../shared/LANGUAGE.md need: the files of the package, as text and as trees, and what rules name."""

import ast
from pathlib import Path

import laterthemes

PACKAGE = Path(laterthemes.__file__).parent
FILES = sorted(PACKAGE.rglob("*.py"))

NODES = """
    Module Expr Assign Name Constant Load Store FunctionDef arguments arg ClassDef Return If While For Break Continue Pass
    Raise Call keyword Attribute Subscript Slice Tuple List Dict BinOp UnaryOp BoolOp Compare IfExp ListComp DictComp SetComp
    comprehension Add Sub Mult FloorDiv Mod BitAnd USub Not And Or Eq NotEq Lt LtE Gt GtE Is IsNot In NotIn ImportFrom alias
    Try ExceptHandler With withitem
""".split()
SETTERS = [".setter"]
MODIFYING = ["append", "clear", "extend", "insert", "pop", "remove", "reverse", "setdefault", "update"]
BUILTINS = """
    len range enumerate zip min max sum abs sorted reversed int str bool bytes list tuple dict set frozenset isinstance ord
    repr any all divmod Exception ValueError TypeError KeyError IndexError LookupError ZeroDivisionError ArithmeticError
    OverflowError RuntimeError NotImplementedError AttributeError StopIteration NotImplemented
""".split()
METHODS = """
    append clear copy count endswith extend find get index insert isalnum isalpha isdigit islower isspace isupper items join
    keys ljust lower lstrip partition pop remove replace reverse rfind rjust rpartition rsplit rstrip setdefault split
    splitlines startswith strip update upper values zfill bit_length title capitalize swapcase casefold center expandtabs
    removeprefix removesuffix rindex isascii isdecimal isnumeric istitle isidentifier isprintable translate
""".split()
SPECIAL = """
    __init__ __eq__ __repr__ __str__ __len__ __enter__ __exit__ __call__ __iter__ __lt__ __le__ __gt__ __ge__ __ne__ __add__
    __sub__ __mul__ __and__ __or__ __iadd__ __neg__ __pos__ __invert__ __abs__ __bool__ __contains__ __getitem__ __setitem__
""".split()
BARRED_NAMES = """
    register mro elements open input law version_info with_traceback add_note attrgetter breakpoint builtins compile
    copyright credits delattr dir eval exec exit gc getattr globals hasattr help id importlib license locals methodcaller os
    quit setattr super type vars sys format format_map iter next
""".split()
BARRED_WORDS = """
    type typing typing_extensions enum Enum IntEnum StrEnum Flag IntFlag Generic Protocol ABC ABCMeta namedtuple NamedTuple
    TypedDict TYPE_CHECKING abstractmethod
""".split()
BARRED_ATTRIBUTES = """
    items keys values pop update append clear extend insert remove reverse setdefault sort args encode decode hex fromhex
    format format_map mro
""".split()
BARRED_FILES = "len filter format range sum int property test tests testing site conftest".split()


def tree_of(path):
    return ast.parse(path.read_text(encoding="ascii"))


def nodes(kind):
    """All nodes of a kind, with the place where they stand."""
    for path in FILES:
        for node in ast.walk(tree_of(path)):
            if isinstance(node, kind):
                yield f"{path.name}:{getattr(node, 'lineno', 0)}", node


def module_of(path):
    parts = list(path.relative_to(PACKAGE.parent).with_suffix("").parts)
    return ".".join(parts[:-1] if parts[-1] == "__init__" else parts)


def names_bound_by(node):
    """The names that a statement at module level binds."""
    if isinstance(node, ast.ImportFrom):
        return [alias.name for alias in node.names]
    if isinstance(node, ast.Assign):
        return [target.id for target in node.targets]
    return [node.name] if isinstance(node, (ast.FunctionDef, ast.ClassDef)) else []


def is_docstring(node):
    return isinstance(node, ast.Expr) and isinstance(node.value, ast.Constant) and isinstance(node.value.value, str)


def docstrings(tree):
    kinds = (ast.Module, ast.FunctionDef, ast.ClassDef)
    return [node.body[0].value for node in ast.walk(tree)
            if isinstance(node, kinds) and node.body and is_docstring(node.body[0])]


def own_methods():
    return [item.name for _, item in methods_of_classes()]


def methods_of_classes():
    """All methods, each with the class in which it stands."""
    for _, node in nodes(ast.ClassDef):
        yield from [(node, item) for item in node.body if isinstance(item, ast.FunctionDef)]


def decorators(function):
    """The decorators, where that of the setter of a property of the same name is called like an attribute."""
    names = [item.id for item in function.decorator_list if isinstance(item, ast.Name)]
    return names + ["." + item.attr for item in function.decorator_list
                    if isinstance(item, ast.Attribute) and getattr(item.value, "id", None) == function.name]


def stored_attributes():
    """The names of all attributes that the package assigns."""
    return {node.attr for _, node in nodes(ast.Attribute) if isinstance(node.ctx, ast.Store)}


def call_name(node):
    """The name of the function or the method that is called."""
    return node.func.id if isinstance(node.func, ast.Name) else node.func.attr


def call_name_of(node):
    """The same for any node, None for one that is no call."""
    return call_name(node) if isinstance(node, ast.Call) else None


def own_classes():
    return [node for _, node in nodes(ast.ClassDef)]


def is_new(node, kinds):
    """Whether an expression is a new object of these kinds, or a call of list, dict or sorted."""
    if isinstance(node, ast.Call) and isinstance(node.func, ast.Name):
        return node.func.id in ("list", "dict", "sorted")
    return isinstance(node, kinds)


def made_here(function, kinds):
    """The local variables that a function assigns a new list or dictionary, and nothing else."""
    made, other = set(), {item.arg for item in function.args.args + function.args.kwonlyargs}
    for node in ast.walk(function):
        if isinstance(node, ast.Assign):
            for target in node.targets:
                if isinstance(target, ast.Name) and is_new(node.value, kinds):
                    made.add(target.id)
                else:
                    other |= {item.id for item in ast.walk(target) if isinstance(item, ast.Name)
                              and isinstance(item.ctx, ast.Store)}
        if isinstance(node, (ast.For, ast.comprehension)):
            other |= {item.id for item in ast.walk(node.target) if isinstance(item, ast.Name)}
    return made - other


def run_by_operators():
    """All functions that operators, properties, `__eq__` and `__len__` run, by their names, with their places.

    A method that is called may be any method of this name; what creates an object runs the `__init__` of its class.
    """
    table, start = {}, []
    for path in FILES:
        for node in tree_of(path).body:
            if isinstance(node, ast.FunctionDef):
                table.setdefault(node.name, []).append((f"{path.name}:{node.lineno}", node))
    for kind, method in methods_of_classes():
        label = kind.name if method.name == "__init__" else method.name
        # The setter of a property is run by what assigns to it, which is nothing in the package.
        if decorators(method) != SETTERS:
            table.setdefault(label, []).append((f"{kind.name}.{method.name}", method))
        special = method.name.startswith("__") and method.name not in ("__init__", "__enter__", "__exit__", "__call__")
        if special and method.name not in ("__setitem__", "__iadd__") or decorators(method) == ["property"]:
            start.append(method.name)
    found, todo = {}, start
    while todo:
        name = todo.pop()
        if name not in found:
            found[name] = table.get(name, [])
            todo += [call_name(node) for _, function in found[name] for node in ast.walk(function)
                     if isinstance(node, ast.Call)]
    return [item for items in found.values() for item in items]

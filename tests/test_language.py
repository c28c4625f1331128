"""What a test can check of ../shared/LANGUAGE.md in the files of the package.

Some checks are narrower than the rules, where the package needs no more: no augmented assignment at all, because
L5 allows it nowhere in what an operator runs once a class has `__iadd__`.
"""

import ast
import builtins
import io
import re
import tokenize
import unittest
import warnings
from pathlib import Path

import laterthemes

PACKAGE = Path(laterthemes.__file__).parent
FILES = sorted(PACKAGE.rglob("*.py"))

NODES = """
    Module Expr Assign Name Constant Load Store FunctionDef arguments arg ClassDef Return If While For Break Continue Pass
    Raise Call keyword Attribute Subscript Slice Tuple List Dict BinOp UnaryOp BoolOp Compare IfExp ListComp DictComp SetComp
    comprehension Add Sub Mult FloorDiv Mod USub Not And Or Eq NotEq Lt LtE Gt GtE Is IsNot In NotIn ImportFrom alias
    Try ExceptHandler
""".split()
DECORATORS = ["property", "staticmethod"]
MODIFYING = ["append", "clear", "extend", "insert", "pop", "remove", "reverse", "setdefault", "update"]
BUILTINS = """
    len range enumerate zip min max sum abs sorted reversed int str bool bytes list tuple dict set frozenset isinstance ord
    repr any all divmod Exception ValueError TypeError KeyError IndexError LookupError ZeroDivisionError ArithmeticError
    OverflowError RuntimeError NotImplementedError AttributeError StopIteration NotImplemented
""".split()
METHODS = """
    append clear copy count endswith extend find get index insert isalnum isalpha isdigit islower isspace isupper items join
    keys ljust lower lstrip partition pop remove replace reverse rfind rjust rpartition rsplit rstrip setdefault split
    splitlines startswith strip update upper values zfill bit_length title capitalize swapcase casefold center expandtabs
    removeprefix removesuffix rindex isascii isdecimal isnumeric istitle isidentifier isprintable translate
""".split()
SPECIAL = """
    __init__ __eq__ __repr__ __str__ __len__ __enter__ __exit__ __call__ __iter__ __lt__ __le__ __gt__ __ge__ __ne__ __add__
    __sub__ __mul__ __and__ __or__ __iadd__ __neg__ __pos__ __invert__ __abs__ __bool__ __contains__ __getitem__ __setitem__
""".split()
BARRED_NAMES = """
    register mro elements open input law version_info with_traceback add_note attrgetter breakpoint builtins compile
    copyright credits delattr dir eval exec exit gc getattr globals hasattr help id importlib license locals methodcaller os
    quit setattr super type vars sys format format_map iter next
""".split()
BARRED_WORDS = """
    type typing typing_extensions enum Enum IntEnum StrEnum Flag IntFlag Generic Protocol ABC ABCMeta namedtuple NamedTuple
    TypedDict TYPE_CHECKING abstractmethod
""".split()
BARRED_FILES = "len filter format range sum int property test tests testing site conftest".split()


def tree_of(path):
    return ast.parse(path.read_text(encoding="ascii"))


def nodes(kind):
    """All nodes of a kind, with the place where they stand."""
    for path in FILES:
        for node in ast.walk(tree_of(path)):
            if isinstance(node, kind):
                yield f"{path.name}:{getattr(node, 'lineno', 0)}", node


def module_of(path):
    parts = list(path.relative_to(PACKAGE.parent).with_suffix("").parts)
    return ".".join(parts[:-1] if parts[-1] == "__init__" else parts)


def names_bound_by(node):
    """The names that a statement at module level binds."""
    if isinstance(node, ast.ImportFrom):
        return [alias.name for alias in node.names]
    if isinstance(node, ast.Assign):
        return [target.id for target in node.targets]
    return [node.name] if isinstance(node, (ast.FunctionDef, ast.ClassDef)) else []


def is_docstring(node):
    return isinstance(node, ast.Expr) and isinstance(node.value, ast.Constant) and isinstance(node.value.value, str)


def docstrings(tree):
    kinds = (ast.Module, ast.FunctionDef, ast.ClassDef)
    return [node.body[0].value for node in ast.walk(tree)
            if isinstance(node, kinds) and node.body and is_docstring(node.body[0])]


def own_methods():
    return [item.name for _, item in methods_of_classes()]


def methods_of_classes():
    """All methods, each with the class in which it stands."""
    for _, node in nodes(ast.ClassDef):
        yield from [(node, item) for item in node.body if isinstance(item, ast.FunctionDef)]


def decorators(function):
    return [item.id for item in function.decorator_list if isinstance(item, ast.Name)]


def stored_attributes():
    """The names of all attributes that the package assigns."""
    return {node.attr for _, node in nodes(ast.Attribute) if isinstance(node.ctx, ast.Store)}


def call_name(node):
    """The name of the function or the method that is called."""
    return node.func.id if isinstance(node.func, ast.Name) else node.func.attr


class Files(unittest.TestCase):
    def test_names_of_files(self):
        self.assertTrue((PACKAGE / "__init__.py").is_file())
        self.assertLessEqual(len(FILES), 100)
        for path in PACKAGE.rglob("*"):
            if "__pycache__" not in path.parts:
                self.assertTrue(path.suffix == ".py" and re.fullmatch("[a-z][a-z0-9_]*|__init__", path.stem), path)
                self.assertNotIn(path.stem, BARRED_FILES + BARRED_NAMES + BARRED_WORDS + dir(builtins))

    def test_characters(self):
        for path in FILES:
            self.assertLessEqual(set(path.read_bytes()), set(range(32, 127)) | {10}, path)

    def test_sizes(self):
        for path in FILES:
            lines = path.read_text().split("\n")
            self.assertLessEqual(len(lines) - 1, 399, path)
            self.assertLessEqual(max(map(len, lines)), 120, path)
        for place, node in nodes(ast.FunctionDef):
            self.assertLessEqual(node.end_lineno - node.lineno + 1, 40, place)

    def test_no_warnings(self):
        for path in FILES:
            with warnings.catch_warnings():
                warnings.simplefilter("error")
                compile(path.read_text(), str(path), "exec")


class Modules(unittest.TestCase):
    def test_module_level(self):
        for path in FILES:
            tree = tree_of(path)
            kinds = []
            for at, node in enumerate(tree.body):
                if not (at == 0 and is_docstring(node)):
                    self.assertIsInstance(node, (ast.ImportFrom, ast.FunctionDef, ast.ClassDef, ast.Assign), path)
                    kinds.append(isinstance(node, ast.ImportFrom))
            self.assertEqual(kinds, sorted(kinds, reverse=True), f"{path}: imports stand at the top")
            bound = [name for node in tree.body for name in names_bound_by(node)]
            self.assertEqual(len(bound), len(set(bound)), path)
            for node in tree.body:
                if isinstance(node, ast.Assign):
                    self.assertEqual([type(target) for target in node.targets], [ast.Name], path)
                    ast.literal_eval(node.value)

    def test_imports(self):
        defined = {module_of(path): [name for node in tree_of(path).body if not isinstance(node, ast.ImportFrom)
                                     for name in names_bound_by(node)] for path in FILES}
        for place, node in nodes((ast.Import, ast.ImportFrom)):
            self.assertIsInstance(node, ast.ImportFrom, place)
            self.assertEqual(node.level, 0, place)
            self.assertIn(node.module, defined, place)
            for alias in node.names:
                self.assertIn(alias.name, defined[node.module], place)
                self.assertIsNone(alias.asname, place)

    def test_imports_are_used(self):
        for path in FILES:
            tree = tree_of(path)
            used = {node.id for node in ast.walk(tree) if isinstance(node, ast.Name)}
            for node in tree.body:
                if isinstance(node, ast.ImportFrom):
                    self.assertLessEqual({alias.name for alias in node.names}, used, path)

    def test_no_two_files_import_from_each_other(self):
        edges = {module_of(path): {node.module for node in tree_of(path).body if isinstance(node, ast.ImportFrom)}
                 for path in FILES}
        while edges:
            free = [name for name, others in edges.items() if not others & set(edges)]
            self.assertTrue(free, f"a ring of imports in {sorted(edges)}")
            edges = {name: others for name, others in edges.items() if name not in free}

    def test_nothing_is_left_over(self):
        for path in FILES:
            for node in tree_of(path).body:
                if isinstance(node, (ast.FunctionDef, ast.Assign)):
                    for name in names_bound_by(node):
                        used = [other for other in FILES + sorted(Path(__file__).parent.glob("*.py"))
                                if len(re.findall(rf"\b{name}\b", other.read_text())) > (other == path)]
                        self.assertTrue(used, f"{path.name}: {name} is never used")


class Statements(unittest.TestCase):
    def test_kinds_of_nodes(self):
        for path in FILES:
            for node in ast.walk(tree_of(path)):
                self.assertIn(type(node).__name__, NODES, f"{path.name}:{getattr(node, 'lineno', 0)}")

    def test_calls_stand_alone(self):
        for path in FILES:
            tree = tree_of(path)
            strings = docstrings(tree)
            for node in ast.walk(tree):
                if isinstance(node, ast.Expr) and node.value not in strings:
                    self.assertIsInstance(node.value, ast.Call, f"{path.name}:{node.lineno}")

    def test_no_annotations_and_stars(self):
        for place, node in nodes(ast.FunctionDef):
            self.assertIsNone(node.returns, place)
            self.assertIsNone(node.args.vararg or node.args.kwarg, place)
            self.assertFalse(node.args.posonlyargs, place)
            self.assertTrue(all(item.annotation is None for item in node.args.args + node.args.kwonlyargs), place)
            for default in node.args.defaults + [item for item in node.args.kw_defaults if item is not None]:
                self.assertNotIsInstance(ast.literal_eval(default), (list, dict), place)

    def test_decorators_stand_over_methods(self):
        methods = [method for _, method in methods_of_classes()]
        decorated = [method.name for method in methods if method.decorator_list]
        for place, node in nodes(ast.ClassDef):
            self.assertEqual(node.decorator_list, [], place)
        for place, node in nodes(ast.FunctionDef):
            self.assertEqual(len(decorators(node)), len(node.decorator_list), place)
            self.assertTrue(decorators(node) in ([], ["property"], ["staticmethod"]), place)
            if node.decorator_list:
                self.assertIn(node.name, decorated, place)
                self.assertEqual(own_methods().count(node.name), 1, place)
                self.assertNotIn(node.name, sorted(stored_attributes()) + METHODS, place)
                self.assertFalse(node.args.kwonlyargs, place)
                self.assertTrue(decorators(node) != ["property"] or [item.arg for item in node.args.args] == ["self"], place)
                self.assertFalse(node.name.startswith("__"), place)

    def test_names_alone_after_a_star_in_functions_only(self):
        for _, method in methods_of_classes():
            self.assertFalse(method.args.kwonlyargs and method.name.startswith("__"), method.name)

    def test_own_errors_alone_are_caught(self):
        own = [node.name for node in tree_of(PACKAGE / "errors.py").body if isinstance(node, ast.ClassDef)]
        for place, node in nodes(ast.Try):
            self.assertFalse(node.finalbody, place)
            for handler in node.handlers:
                caught = handler.type.elts if isinstance(handler.type, ast.Tuple) else [handler.type]
                self.assertTrue(caught, place)
                for item in caught:
                    self.assertIn(getattr(item, "id", None), own, place)

    def test_is(self):
        for place, node in nodes(ast.Compare):
            for sign, right in zip(node.ops, node.comparators):
                if isinstance(sign, (ast.Is, ast.IsNot)):
                    self.assertTrue(isinstance(right, ast.Constant) and right.value in (None, True, False), place)

    def test_raise_creates_its_error(self):
        for place, node in nodes(ast.Raise):
            self.assertIsInstance(node.exc, ast.Call, place)
            self.assertIsInstance(node.exc.func, ast.Name, place)

    def test_sets(self):
        """A set is not stored or iterated: it stands directly in sorted(..) or len(..), or after in."""
        for path in FILES:
            tree = tree_of(path)
            allowed = []
            for node in ast.walk(tree):
                if isinstance(node, ast.Call) and isinstance(node.func, ast.Name) and node.func.id in ("sorted", "len"):
                    allowed += node.args
                if isinstance(node, ast.Compare) and isinstance(node.ops[0], (ast.In, ast.NotIn)):
                    allowed += node.comparators
            for node in ast.walk(tree):
                call = isinstance(node, ast.Call) and isinstance(node.func, ast.Name) and node.func.id == "set"
                if call or isinstance(node, ast.SetComp):
                    self.assertIn(node, allowed, f"{path.name}:{node.lineno}")

    def test_iterated_at_once(self):
        """zip, enumerate, range and views stand in a loop, a comprehension or a call that iterates them."""
        for path in FILES:
            tree = tree_of(path)
            allowed = []
            for node in ast.walk(tree):
                if isinstance(node, (ast.For, ast.comprehension)):
                    allowed.append(node.iter)
                if isinstance(node, ast.Call) and isinstance(node.func, ast.Name):
                    allowed += node.args[:1] if node.func.id in ("list", "tuple", "dict", "sorted", "sum", "enumerate") else []
            for node in ast.walk(tree):
                if isinstance(node, ast.Call):
                    name = node.func.id if isinstance(node.func, ast.Name) else node.func.attr
                    own = isinstance(node.func, ast.Attribute) and name not in ("items", "keys", "values")
                    if name in ("zip", "enumerate", "range", "reversed", "items", "keys", "values") and not own:
                        self.assertIn(node, allowed, f"{path.name}:{node.lineno}")


class Names(unittest.TestCase):
    def bound_names(self):
        """Names of variables, parameters, functions, classes and imports, and attributes and keywords."""
        for place, node in nodes((ast.Name, ast.arg, ast.FunctionDef, ast.ClassDef, ast.alias)):
            if not (isinstance(node, ast.Name) and isinstance(node.ctx, ast.Load)):
                yield place, getattr(node, "id", None) or getattr(node, "arg", None) or node.name

    def test_bound_names(self):
        for place, name in self.bound_names():
            self.assertRegex(name, r"\A(_?[A-Za-z][A-Za-z0-9_]*|_|__[a-z]+__)\Z", place)
            self.assertNotIn(name, BARRED_NAMES + dir(builtins), place)
            self.assertFalse(re.match("_(wall|pe_|dcw_|enum_|cm_|twin_re_|lay_|law_|stub_|sre|WallAttr)", name), place)
            self.assertFalse(re.match("_?(cold|tuplegetter|outside|record|written_out|member_names)", name), place)
            if name.startswith("__"):
                self.assertIn(name, SPECIAL, place)

    def test_names_that_are_read(self):
        for path in FILES:
            tree = tree_of(path)
            bound = {name for node in tree.body for name in names_bound_by(node)}
            for node in ast.walk(tree):
                if isinstance(node, ast.Name) and isinstance(node.ctx, ast.Store):
                    bound.add(node.id)
                if isinstance(node, ast.arg):
                    bound.add(node.arg)
            over = [item for node in ast.walk(tree) if isinstance(node, ast.FunctionDef) for item in node.decorator_list]
            read = {node.id for node in ast.walk(tree) if isinstance(node, ast.Name) and isinstance(node.ctx, ast.Load)
                    and not (node in over and node.id in DECORATORS)}
            self.assertLessEqual(read - bound, set(BUILTINS), path)
            self.assertNotIn("_", read, path)

    def test_variables_are_not_called_like_imports_and_classes(self):
        for path in FILES:
            tree = tree_of(path)
            taken = {name for node in tree.body if isinstance(node, (ast.ImportFrom, ast.ClassDef))
                     for name in names_bound_by(node)}
            for node in ast.walk(tree):
                if isinstance(node, ast.arg):
                    self.assertNotIn(node.arg, taken, f"{path.name}:{node.lineno}")
                if isinstance(node, ast.Name) and isinstance(node.ctx, ast.Store):
                    self.assertNotIn(node.id, taken, f"{path.name}:{node.lineno}")

    def test_attributes(self):
        assigned = {node.attr for _, node in nodes(ast.Attribute) if isinstance(node.ctx, ast.Store)}
        methods = own_methods()
        for place, node in nodes(ast.Attribute):
            self.assertIn(node.attr, sorted(assigned) + methods + METHODS, place)
            self.assertNotIn(node.attr, BARRED_NAMES, place)

    def test_called_methods(self):
        called = [(place, node.func) for place, node in nodes(ast.Call) if isinstance(node.func, ast.Attribute)]
        for place, function in called:
            self.assertIn(function.attr, METHODS + own_methods(), place)
            self.assertNotEqual(function.attr, "sort", place)

    def test_no_name_is_a_method_and_an_attribute(self):
        for place, node in nodes(ast.ClassDef):
            methods = [item.name for item in node.body if isinstance(item, ast.FunctionDef)]
            self.assertEqual(len(methods), len(set(methods)), place)
            attributes = {item.attr for item in ast.walk(node) if isinstance(item, ast.Attribute)
                          and isinstance(item.ctx, ast.Store)}
            self.assertFalse(attributes & set(methods), place)
            if "__getitem__" in methods:
                self.assertIn("__iter__", methods, place)

    def test_barred_words(self):
        for path in FILES:
            strings = [(node.lineno, node.col_offset) for node in docstrings(tree_of(path))]
            text = path.read_text()
            for token in tokenize.generate_tokens(io.StringIO(text).readline):
                if token.type in (tokenize.NAME, tokenize.STRING) and token.start not in strings:
                    words = re.findall(r"\w+", token.string)
                    self.assertFalse(set(words) & set(BARRED_WORDS), f"{path.name}:{token.start}")
                    self.assertNotRegex(token.string, "dataclass|overload|contextmanager", path)
            self.assertNotRegex(text, r"\(type\)|Meta|metaclass=|_wall|_WallAttr")

    def test_strings_and_numbers(self):
        for place, node in nodes(ast.Constant):
            self.assertIsInstance(node.value, (str, int, type(None)), place)
            if isinstance(node.value, str):
                self.assertNotIn("%", node.value, place)
                self.assertFalse(node.value.endswith(("._", ".__")), place)
                self.assertNotRegex(node.value, r"\\", place)
                self.assertFalse(re.fullmatch("__.*__", node.value), place)


def is_new(node, kinds):
    """Whether an expression is a new object of these kinds, or a call of list, dict or sorted."""
    if isinstance(node, ast.Call) and isinstance(node.func, ast.Name):
        return node.func.id in ("list", "dict", "sorted")
    return isinstance(node, kinds)


def made_here(function, kinds):
    """The local variables that a function assigns a new list or dictionary, and nothing else."""
    made, other = set(), {item.arg for item in function.args.args + function.args.kwonlyargs}
    for node in ast.walk(function):
        if isinstance(node, ast.Assign):
            for target in node.targets:
                if isinstance(target, ast.Name) and is_new(node.value, kinds):
                    made.add(target.id)
                else:
                    other |= {item.id for item in ast.walk(target) if isinstance(item, ast.Name)
                              and isinstance(item.ctx, ast.Store)}
        if isinstance(node, (ast.For, ast.comprehension)):
            other |= {item.id for item in ast.walk(node.target) if isinstance(item, ast.Name)}
    return made - other


def run_by_operators():
    """All functions that operators, properties, `__eq__` and `__len__` run, by their names, with their places.

    A method that is called may be any method of this name; what creates an object runs the `__init__` of its class.
    """
    table, start = {}, []
    for path in FILES:
        for node in tree_of(path).body:
            if isinstance(node, ast.FunctionDef):
                table.setdefault(node.name, []).append((f"{path.name}:{node.lineno}", node))
    for kind, method in methods_of_classes():
        label = kind.name if method.name == "__init__" else method.name
        table.setdefault(label, []).append((f"{kind.name}.{method.name}", method))
        special = method.name.startswith("__") and method.name not in ("__init__", "__enter__", "__exit__", "__call__")
        if special and method.name not in ("__setitem__", "__iadd__") or decorators(method) == ["property"]:
            start.append(method.name)
    found, todo = {}, start
    while todo:
        name = todo.pop()
        if name not in found:
            found[name] = table.get(name, [])
            todo += [call_name(node) for _, function in found[name] for node in ast.walk(function)
                     if isinstance(node, ast.Call)]
    return [item for items in found.values() for item in items]


class Operators(unittest.TestCase):
    """What operators and properties run changes nothing but what it made itself, and calls nothing that it is handed."""

    def test_what_operators_run(self):
        names = {node.name for _, node in run_by_operators()}
        for name in ("__add__", "__eq__", "__and__", "conflicts", "__init__", "order_and_ring", "all_values", "settings_after",
                     "is_definition", "are_conflicts", "require_claim", "copied_setting"):
            self.assertIn(name, names)
        self.assertFalse(names & {"fitted", "verdict", "breaks", "is_evidence"})

    def assert_modifies_only(self, place, function, made):
        for node in ast.walk(function):
            if isinstance(node, ast.Subscript) and isinstance(node.ctx, ast.Store):
                self.assertIn(getattr(node.value, "id", None), made, place)
            if isinstance(node, ast.Call) and isinstance(node.func, ast.Attribute) and node.func.attr in MODIFYING:
                self.assertIn(getattr(node.func.value, "id", None), made, place)

    def test_only_new_lists_are_modified(self):
        for place, function in nodes(ast.FunctionDef):
            self.assert_modifies_only(place, function, made_here(function, (ast.List, ast.Dict, ast.ListComp, ast.DictComp)))

    def test_operators_modify_only_what_is_plainly_new(self):
        """What a dict comprehension makes does not count there."""
        for place, function in run_by_operators():
            self.assert_modifies_only(place, function, made_here(function, (ast.List, ast.Dict, ast.ListComp)))
            if function.name != "__init__":
                self.assertFalse([node for node in ast.walk(function) if isinstance(node, ast.Attribute)
                                  and isinstance(node.ctx, ast.Store)], place)

    def test_operators_call_nothing_that_an_object_may_hold(self):
        """The name of an attribute is no name of a method that an operator runs, whatever the object is."""
        barred = stored_attributes() | {"index"}
        self.assertIn("index", barred)
        for place, function in run_by_operators():
            for node in ast.walk(function):
                if isinstance(node, ast.Call) and isinstance(node.func, ast.Attribute):
                    self.assertNotIn(node.func.attr, barred, place)
                if isinstance(node, ast.Call) and isinstance(node.func, ast.Name):
                    self.assertNotIn(node.func.id, [item.arg for item in function.args.args], place)

    def test_attributes_are_set_in_init_only(self):
        for place, function in nodes(ast.FunctionDef):
            stored = [node for node in ast.walk(function) if isinstance(node, ast.Attribute)
                      and isinstance(node.ctx, ast.Store)]
            self.assertTrue(not stored or function.name == "__init__", place)

    def test_nothing_that_is_passed_is_called(self):
        for path in FILES:
            tree = tree_of(path)
            known = {name for node in tree.body for name in names_bound_by(node)} | set(BUILTINS)
            for node in ast.walk(tree):
                if isinstance(node, ast.Call) and isinstance(node.func, ast.Name):
                    self.assertIn(node.func.id, known, f"{path.name}:{node.lineno}")
                if isinstance(node, ast.Call):
                    self.assertIsInstance(node.func, (ast.Name, ast.Attribute), f"{path.name}:{node.lineno}")

    def test_lists_are_passed_to_what_goes_over_them(self):
        """Beside `__eq__` and operators, `any`, `all`, `min`, `max`, `sum` and `sorted` do not get a generator."""
        for place, node in nodes(ast.GeneratorExp):
            self.fail(place)
        for place, node in nodes(ast.Call):
            if isinstance(node.func, ast.Name) and node.func.id in ("any", "all", "sum"):
                self.assertIsInstance(node.args[0], (ast.ListComp, ast.Name, ast.List), place)

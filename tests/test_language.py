"""What a test can check of ../shared/LANGUAGE.md in the files of the package.

Some checks are narrower than the rules, where the package needs no more: no augmented assignment at all, because
L5 allows it nowhere in what an operator runs once a class has `__iadd__`.
"""

import ast
import builtins
import io
import re
import tokenize
import unittest
import warnings
from pathlib import Path

from tests.sources import (
    BARRED_ATTRIBUTES, BARRED_FILES, BARRED_NAMES, BARRED_WORDS, BUILTINS, FILES, METHODS, NODES, PACKAGE, SETTERS,
    SPECIAL, call_name_of, decorators, docstrings, is_docstring, methods_of_classes, module_of, names_bound_by, nodes,
    own_methods, stored_attributes, tree_of)


class Files(unittest.TestCase):
    def test_names_of_files(self):
        self.assertTrue((PACKAGE / "__init__.py").is_file())
        self.assertLessEqual(len(FILES), 100)
        for path in PACKAGE.rglob("*"):
            if "__pycache__" not in path.parts:
                self.assertTrue(path.suffix == ".py" and re.fullmatch("[a-z][a-z0-9_]*|__init__", path.stem), path)
                self.assertNotIn(path.stem, BARRED_FILES + BARRED_NAMES + BARRED_WORDS + dir(builtins))

    def test_characters(self):
        for path in FILES:
            self.assertLessEqual(set(path.read_bytes()), set(range(32, 127)) | {10}, path)

    def test_sizes(self):
        for path in FILES:
            lines = path.read_text().split("\n")
            self.assertLessEqual(len(lines) - 1, 399, path)
            self.assertLessEqual(max(map(len, lines)), 120, path)
        for place, node in nodes(ast.FunctionDef):
            self.assertLessEqual(node.end_lineno - node.lineno + 1, 40, place)

    def test_no_warnings(self):
        for path in FILES:
            with warnings.catch_warnings():
                warnings.simplefilter("error")
                compile(path.read_text(), str(path), "exec")


class Modules(unittest.TestCase):
    def test_module_level(self):
        for path in FILES:
            tree = tree_of(path)
            kinds = []
            for at, node in enumerate(tree.body):
                if not (at == 0 and is_docstring(node)):
                    self.assertIsInstance(node, (ast.ImportFrom, ast.FunctionDef, ast.ClassDef, ast.Assign), path)
                    kinds.append(isinstance(node, ast.ImportFrom))
            self.assertEqual(kinds, sorted(kinds, reverse=True), f"{path}: imports stand at the top")
            bound = [name for node in tree.body for name in names_bound_by(node)]
            self.assertEqual(len(bound), len(set(bound)), path)
            for node in tree.body:
                if isinstance(node, ast.Assign):
                    self.assertEqual([type(target) for target in node.targets], [ast.Name], path)
                    ast.literal_eval(node.value)

    def test_imports(self):
        defined = {module_of(path): [name for node in tree_of(path).body if not isinstance(node, ast.ImportFrom)
                                     for name in names_bound_by(node)] for path in FILES}
        for place, node in nodes((ast.Import, ast.ImportFrom)):
            self.assertIsInstance(node, ast.ImportFrom, place)
            self.assertEqual(node.level, 0, place)
            self.assertIn(node.module, defined, place)
            for alias in node.names:
                self.assertIn(alias.name, defined[node.module], place)
                self.assertIsNone(alias.asname, place)

    def test_imports_are_used(self):
        for path in FILES:
            tree = tree_of(path)
            used = {node.id for node in ast.walk(tree) if isinstance(node, ast.Name)}
            for node in tree.body:
                if isinstance(node, ast.ImportFrom):
                    self.assertLessEqual({alias.name for alias in node.names}, used, path)

    def test_no_two_files_import_from_each_other(self):
        edges = {module_of(path): {node.module for node in tree_of(path).body if isinstance(node, ast.ImportFrom)}
                 for path in FILES}
        while edges:
            free = [name for name, others in edges.items() if not others & set(edges)]
            self.assertTrue(free, f"a ring of imports in {sorted(edges)}")
            edges = {name: others for name, others in edges.items() if name not in free}

    def test_nothing_is_left_over(self):
        for path in FILES:
            for node in tree_of(path).body:
                if isinstance(node, (ast.FunctionDef, ast.Assign)):
                    for name in names_bound_by(node):
                        used = [other for other in FILES + sorted(Path(__file__).parent.glob("*.py"))
                                if len(re.findall(rf"\b{name}\b", other.read_text())) > (other == path)]
                        self.assertTrue(used, f"{path.name}: {name} is never used")


class Statements(unittest.TestCase):
    def test_kinds_of_nodes(self):
        for path in FILES:
            for node in ast.walk(tree_of(path)):
                self.assertIn(type(node).__name__, NODES, f"{path.name}:{getattr(node, 'lineno', 0)}")

    def test_calls_stand_alone(self):
        for path in FILES:
            tree = tree_of(path)
            strings = docstrings(tree)
            for node in ast.walk(tree):
                if isinstance(node, ast.Expr) and node.value not in strings:
                    self.assertIsInstance(node.value, ast.Call, f"{path.name}:{node.lineno}")

    def test_no_annotations_and_stars(self):
        for place, node in nodes(ast.FunctionDef):
            self.assertIsNone(node.returns, place)
            self.assertIsNone(node.args.vararg or node.args.kwarg, place)
            self.assertFalse(node.args.posonlyargs, place)
            self.assertTrue(all(item.annotation is None for item in node.args.args + node.args.kwonlyargs), place)
            for default in node.args.defaults + [item for item in node.args.kw_defaults if item is not None]:
                self.assertNotIsInstance(ast.literal_eval(default), (list, dict), place)

    def test_decorators_stand_over_methods(self):
        methods = [method for _, method in methods_of_classes()]
        decorated = [method.name for method in methods if method.decorator_list]
        for place, node in nodes(ast.ClassDef):
            self.assertEqual(node.decorator_list, [], place)
        for place, node in nodes(ast.FunctionDef):
            self.assertEqual(len(decorators(node)), len(node.decorator_list), place)
            self.assertTrue(decorators(node) in ([], ["property"], ["staticmethod"], SETTERS), place)
            if node.decorator_list:
                self.assertIn(node.name, decorated, place)
                self.assertEqual(own_methods().count(node.name), len(self.with_setter(node.name)) + 1, place)
                self.assertNotIn(node.name, sorted(stored_attributes()) + METHODS, place)
                self.assertFalse(node.args.kwonlyargs or node.args.defaults, place)
                self.assertFalse(node.name.startswith("__"), place)
                expected = {"property": ["self"], ".setter": ["self", "value"]}.get(decorators(node)[0])
                self.assertIn(expected, (None, [item.arg for item in node.args.args]), place)

    def with_setter(self, name):
        return [method for _, method in methods_of_classes() if decorators(method) == SETTERS and method.name == name]

    def test_setters_stand_below_their_properties(self):
        for place, node in nodes(ast.ClassDef):
            seen = []
            for method in [item for item in node.body if isinstance(item, ast.FunctionDef)]:
                self.assertTrue(decorators(method) != SETTERS or (method.name, ["property"]) in seen, place)
                seen.append((method.name, decorators(method)))

    def test_properties_are_neither_assigned_nor_called(self):
        names = {method.name for _, method in methods_of_classes() if decorators(method) == ["property"]}
        self.assertEqual(names, {"conflicts", "book", "guards"})
        for place, node in nodes(ast.Attribute):
            self.assertFalse(isinstance(node.ctx, ast.Store) and node.attr in names, place)
        for place, node in nodes(ast.Call):
            self.assertNotIn(getattr(node.func, "attr", None), names, place)

    def test_names_alone_after_a_star_in_functions_only(self):
        for _, method in methods_of_classes():
            self.assertFalse(method.args.kwonlyargs and method.name.startswith("__"), method.name)

    def test_own_errors_alone_are_caught(self):
        own = [node.name for node in tree_of(PACKAGE / "errors.py").body if isinstance(node, ast.ClassDef)]
        for place, node in nodes(ast.Try):
            self.assertFalse(node.finalbody, place)
            for handler in node.handlers:
                caught = handler.type.elts if isinstance(handler.type, ast.Tuple) else [handler.type]
                self.assertTrue(caught, place)
                for item in caught:
                    self.assertIn(getattr(item, "id", None), own, place)

    def test_is(self):
        for place, node in nodes(ast.Compare):
            for sign, right in zip(node.ops, node.comparators):
                if isinstance(sign, (ast.Is, ast.IsNot)):
                    self.assertTrue(isinstance(right, ast.Constant) and right.value in (None, True, False), place)

    def test_raise_creates_its_error(self):
        for place, node in nodes(ast.Raise):
            self.assertIsInstance(node.exc, ast.Call, place)
            self.assertIsInstance(node.exc.func, ast.Name, place)

    def test_sets(self):
        """A set is not stored or iterated: it stands directly in sorted(..) or len(..), or after in."""
        for path in FILES:
            tree = tree_of(path)
            allowed = []
            for node in ast.walk(tree):
                if isinstance(node, ast.Call) and isinstance(node.func, ast.Name) and node.func.id in ("sorted", "len"):
                    allowed += node.args
                if isinstance(node, ast.Compare) and isinstance(node.ops[0], (ast.In, ast.NotIn)):
                    allowed += node.comparators
            for node in ast.walk(tree):
                call = isinstance(node, ast.Call) and isinstance(node.func, ast.Name) and node.func.id == "set"
                if call or isinstance(node, ast.SetComp):
                    self.assertIn(node, allowed, f"{path.name}:{node.lineno}")

    def test_iterated_at_once(self):
        """zip, enumerate, range and views stand in a loop, a comprehension or a call that iterates them."""
        for path in FILES:
            tree = tree_of(path)
            allowed = []
            for node in ast.walk(tree):
                if isinstance(node, (ast.For, ast.comprehension)):
                    allowed.append(node.iter)
                if isinstance(node, ast.Call) and isinstance(node.func, ast.Name):
                    allowed += node.args[:1] if node.func.id in ("list", "tuple", "dict", "sorted", "sum", "enumerate") else []
                    inner = node.args[0] if node.func.id == "reversed" else None
                    # Of these, reversed(..) takes range(..) only.
                    allowed += [inner] if call_name_of(inner) == "range" else []
            for node in ast.walk(tree):
                if isinstance(node, ast.Call):
                    name = node.func.id if isinstance(node.func, ast.Name) else node.func.attr
                    own = isinstance(node.func, ast.Attribute) and name not in ("items", "keys", "values")
                    if name in ("zip", "enumerate", "range", "reversed", "items", "keys", "values") and not own:
                        self.assertIn(node, allowed, f"{path.name}:{node.lineno}")


class Names(unittest.TestCase):
    def bound_names(self):
        """Names of variables, parameters, functions, classes and imports, and attributes and keywords."""
        for place, node in nodes((ast.Name, ast.arg, ast.FunctionDef, ast.ClassDef, ast.alias)):
            if not (isinstance(node, ast.Name) and isinstance(node.ctx, ast.Load)):
                yield place, getattr(node, "id", None) or getattr(node, "arg", None) or node.name

    def test_bound_names(self):
        for place, name in self.bound_names():
            self.assertRegex(name, r"\A(_?[A-Za-z][A-Za-z0-9_]*|_|__[a-z]+__)\Z", place)
            self.assertNotIn(name, BARRED_NAMES + dir(builtins), place)
            self.assertFalse(re.match("_(wall|pe_|dcw_|enum_|cm_|twin_re_|lay_|law_|stub_|sre|WallAttr)", name), place)
            self.assertFalse(re.match("_?(cold|tuplegetter|outside|record|written_out|member_names)", name), place)
            if name.startswith("__"):
                self.assertIn(name, SPECIAL, place)

    def test_names_that_are_read(self):
        for path in FILES:
            tree = tree_of(path)
            bound = {name for node in tree.body for name in names_bound_by(node)}
            for node in ast.walk(tree):
                if isinstance(node, ast.Name) and isinstance(node.ctx, ast.Store):
                    bound.add(node.id)
                if isinstance(node, ast.arg):
                    bound.add(node.arg)
            over = [part for node in ast.walk(tree) if isinstance(node, ast.FunctionDef) for item in node.decorator_list
                    for part in ast.walk(item)]
            read = {node.id for node in ast.walk(tree) if isinstance(node, ast.Name) and isinstance(node.ctx, ast.Load)
                    and node not in over}
            self.assertLessEqual(read - bound, set(BUILTINS), path)
            self.assertNotIn("_", read, path)

    def test_variables_are_not_called_like_imports_and_classes(self):
        for path in FILES:
            tree = tree_of(path)
            taken = {name for node in tree.body if isinstance(node, (ast.ImportFrom, ast.ClassDef))
                     for name in names_bound_by(node)}
            for node in ast.walk(tree):
                if isinstance(node, ast.arg):
                    self.assertNotIn(node.arg, taken, f"{path.name}:{node.lineno}")
                if isinstance(node, ast.Name) and isinstance(node.ctx, ast.Store):
                    self.assertNotIn(node.id, taken, f"{path.name}:{node.lineno}")

    def test_attributes(self):
        assigned = stored_attributes()
        methods = own_methods()
        for path in FILES:
            tree = tree_of(path)
            over = [part for node in ast.walk(tree) if isinstance(node, ast.FunctionDef) for item in node.decorator_list
                    for part in ast.walk(item)]
            for node in ast.walk(tree):
                if isinstance(node, ast.Attribute) and node not in over:
                    self.assertIn(node.attr, sorted(assigned) + methods + METHODS, f"{path.name}:{node.lineno}")
                    self.assertNotIn(node.attr, BARRED_NAMES, f"{path.name}:{node.lineno}")
        self.assertFalse(assigned & set(BARRED_ATTRIBUTES))

    def test_called_methods(self):
        called = [(place, node.func) for place, node in nodes(ast.Call) if isinstance(node.func, ast.Attribute)]
        for place, function in called:
            self.assertIn(function.attr, METHODS + own_methods(), place)
            self.assertNotEqual(function.attr, "sort", place)

    def test_no_name_is_a_method_and_an_attribute(self):
        for place, node in nodes(ast.ClassDef):
            methods = [item.name for item in node.body if isinstance(item, ast.FunctionDef) and decorators(item) != SETTERS]
            self.assertEqual(len(methods), len(set(methods)), place)
            attributes = {item.attr for item in ast.walk(node) if isinstance(item, ast.Attribute)
                          and isinstance(item.ctx, ast.Store)}
            self.assertFalse(attributes & set(methods), place)
            if "__getitem__" in methods:
                self.assertIn("__iter__", methods, place)

    def test_barred_words(self):
        for path in FILES:
            strings = [(node.lineno, node.col_offset) for node in docstrings(tree_of(path))]
            text = path.read_text()
            for token in tokenize.generate_tokens(io.StringIO(text).readline):
                if token.type in (tokenize.NAME, tokenize.STRING) and token.start not in strings:
                    words = re.findall(r"\w+", token.string)
                    self.assertFalse(set(words) & set(BARRED_WORDS), f"{path.name}:{token.start}")
                    self.assertNotRegex(token.string, "dataclass|overload|contextmanager", path)
            self.assertNotRegex(text, r"\(type\)|Meta|metaclass=|_wall|_WallAttr")

    def test_strings_and_numbers(self):
        for place, node in nodes(ast.Constant):
            self.assertIsInstance(node.value, (str, int, type(None)), place)
            if isinstance(node.value, str):
                self.assertNotIn("%", node.value, place)
                self.assertFalse(node.value.endswith(("._", ".__")), place)
                self.assertNotRegex(node.value, r"\\", place)
                self.assertFalse(re.fullmatch("__.*__", node.value), place)

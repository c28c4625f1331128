"""What a test can check of ../shared/LANGUAGE.md about operators, properties, classes, `with` and calls.

What an operator runs is found by names alone: a test cannot see to which object a method belongs.
"""

import ast
import importlib
import inspect
import unittest

from laterthemes import errors
from tests.sources import (
    BUILTINS, FILES, METHODS, MODIFYING, call_name, call_name_of, decorators, is_docstring, made_here,
    methods_of_classes, module_of, names_bound_by, nodes, own_classes, own_methods, run_by_operators, stored_attributes,
    tree_of)


class Operators(unittest.TestCase):
    """What operators and properties run changes nothing but what it made itself, and calls nothing that it is handed."""

    def test_what_operators_run(self):
        names = {node.name for _, node in run_by_operators()}
        for name in ("__add__", "__eq__", "__and__", "conflicts", "__init__", "order_and_ring", "all_values", "settings_after",
                     "is_definition", "are_conflicts", "require_claim", "copied_setting", "__contains__", "__len__", "book",
                     "guards", "book_on", "path_from"):
            self.assertIn(name, names)
        self.assertFalse(names & {"fitted", "verdict", "breaks", "is_evidence", "push", "guard", "__setitem__", "__iadd__"})

    def assert_modifies_only(self, place, function, made):
        for node in ast.walk(function):
            if isinstance(node, ast.Subscript) and isinstance(node.ctx, ast.Store):
                self.assertIn(getattr(node.value, "id", None), made, place)
            if isinstance(node, ast.Call) and isinstance(node.func, ast.Attribute) and node.func.attr in MODIFYING:
                self.assertIn(getattr(node.func.value, "id", None), made, place)

    def test_only_new_lists_are_modified(self):
        for place, function in nodes(ast.FunctionDef):
            self.assert_modifies_only(place, function, made_here(function, (ast.List, ast.Dict, ast.ListComp, ast.DictComp)))

    def test_operators_modify_only_what_is_plainly_new(self):
        """What a dict comprehension makes does not count there."""
        for place, function in run_by_operators():
            self.assert_modifies_only(place, function, made_here(function, (ast.List, ast.Dict, ast.ListComp)))
            if function.name != "__init__":
                self.assertFalse([node for node in ast.walk(function) if isinstance(node, ast.Attribute)
                                  and isinstance(node.ctx, ast.Store)], place)

    def test_operators_call_nothing_that_an_object_may_hold(self):
        """The name of an attribute is no name of a method that an operator runs, whatever the object is."""
        barred = stored_attributes() | {"index"}
        self.assertIn("index", barred)
        for place, function in run_by_operators():
            for node in ast.walk(function):
                if isinstance(node, ast.Call) and isinstance(node.func, ast.Attribute):
                    self.assertNotIn(node.func.attr, barred, place)
                if isinstance(node, ast.Call) and isinstance(node.func, ast.Name):
                    self.assertNotIn(node.func.id, [item.arg for item in function.args.args], place)

    def test_methods_that_operators_run_change_nothing(self):
        """By names alone: no operator calls a method, of whatever object, that has the name of one that changes something."""
        changing = {"push", "pop", "undo", "redo", "guard", "attempt"}
        self.assertLessEqual(changing, set(own_methods()))
        for place, function in run_by_operators():
            called = {call_name(node) for node in ast.walk(function) if isinstance(node, ast.Call)}
            self.assertFalse(called & changing, place)
            self.assertNotIn(function.name, changing, place)

    def test_nothing_that_is_passed_is_called(self):
        """But the action that `attempt` is there to call."""
        found = []
        for path in FILES:
            tree = tree_of(path)
            known = {name for node in tree.body for name in names_bound_by(node)} | set(BUILTINS)
            for node in ast.walk(tree):
                if isinstance(node, ast.Call):
                    self.assertIsInstance(node.func, (ast.Name, ast.Attribute), f"{path.name}:{node.lineno}")
                    found += [node.func.id] if isinstance(node.func, ast.Name) and node.func.id not in known else []
        self.assertEqual(found, ["action"])

    def test_lists_are_passed_to_what_goes_over_them(self):
        """Beside `__eq__` and operators, `any`, `all`, `min`, `max`, `sum` and `sorted` do not get a generator."""
        for place, node in nodes(ast.GeneratorExp):
            self.fail(place)
        for place, node in nodes(ast.Call):
            if isinstance(node.func, ast.Name) and node.func.id in ("any", "all", "sum"):
                self.assertIsInstance(node.args[0], (ast.ListComp, ast.Name, ast.List), place)


class Classes(unittest.TestCase):
    PARAMETERS = {"__eq__": ["self", "other"], "__add__": ["self", "other"], "__and__": ["self", "other"],
                  "__iadd__": ["self", "other"], "__getitem__": ["self", "at"], "__setitem__": ["self", "at", "worth"],
                  "__contains__": ["self", "x"], "__len__": ["self"], "__iter__": ["self"], "__enter__": ["self"],
                  "__exit__": ["self", "kind", "value", "trace"]}

    def test_parameters_of_special_methods(self):
        for kind, method in methods_of_classes():
            if method.name.startswith("__") and method.name not in ("__init__", "__call__"):
                place = f"{kind.name}.{method.name}"
                self.assertEqual([item.arg for item in method.args.args], self.PARAMETERS[method.name], place)
                self.assertFalse(method.args.defaults or method.decorator_list, place)

    def test_special_methods_are_not_called_by_name(self):
        for place, node in nodes(ast.Attribute):
            self.assertFalse(node.attr.startswith("__"), place)

    def test_what_special_methods_return(self):
        for kind, method in methods_of_classes():
            place = f"{kind.name}.{method.name}"
            returned = [node.value for node in ast.walk(method) if isinstance(node, ast.Return)]
            if method.name == "__init__":
                self.assertEqual(returned, [], place)
            if method.name == "__len__":
                self.assertIsInstance(method.body[-1], ast.Return, place)
                self.assertEqual([call_name_of(value) for value in returned], ["len"], place)
            if method.name == "__iter__":
                self.assertEqual([type(node) for node in method.body], [ast.Raise], place)
            if method.name in ("__add__", "__and__", "__iadd__"):
                self.assertEqual(len(returned), 1, place)

    def test_bases(self):
        names = [node.name for node in own_classes()]
        self.assertEqual(len(names), len(set(names)))
        for node in own_classes():
            self.assertFalse(node.keywords or len(node.bases) > 1, node.name)
            self.assertIn([base.id for base in node.bases], ([], ["ValueError"], ["ThemeError"]), node.name)

    def test_class_bodies(self):
        for node in own_classes():
            for at, item in enumerate(node.body):
                self.assertTrue(isinstance(item, ast.FunctionDef) or at == 0 and is_docstring(item), node.name)

    def test_classes_are_called_or_asked_for(self):
        """A class is called, a base class, in isinstance, except or raise, or asked for a static method that is called."""
        names = [node.name for node in own_classes()]
        static = {method.name for _, method in methods_of_classes() if decorators(method) == ["staticmethod"]}
        for path in FILES:
            tree, allowed = tree_of(path), []
            for node in ast.walk(tree):
                if isinstance(node, ast.Call):
                    allowed.append(node.func)
                    if call_name(node) == "isinstance":
                        allowed.append(node.args[1])
                    if isinstance(node.func, ast.Attribute) and node.func.attr in static:
                        allowed.append(node.func.value)
                if isinstance(node, ast.ClassDef):
                    allowed += node.bases
                if isinstance(node, ast.ExceptHandler):
                    allowed += node.type.elts if isinstance(node.type, ast.Tuple) else [node.type]
            for node in ast.walk(tree):
                if isinstance(node, ast.Name) and node.id in names:
                    self.assertIn(node, allowed, f"{path.name}:{node.lineno}")

    def test_names_of_methods(self):
        """Of the methods of builtin values, some names only may be those of methods of the package, and few of attributes."""
        builtin = {name for kind in (str, int, list, dict, set, bytes) for name in dir(kind)}
        allowed = METHODS[:METHODS.index("title")] + ["add", "discard"]
        for kind, method in methods_of_classes():
            if not method.name.startswith("__"):
                self.assertTrue(method.name not in builtin or method.name in allowed, method.name)
                self.assertTrue(method.name not in builtin or not method.decorator_list, method.name)
                self.assertTrue(method.name not in builtin or not method.args.kwonlyargs, method.name)
        for name in stored_attributes() & builtin:
            self.assertIn(name, "count index title find get join lower upper split strip copy add".split())

    def test_where_attributes_are_set(self):
        """In methods only; elsewhere than in `__init__`, a live theme alone is changed, by its own methods and trials."""
        methods = [(kind.name, method) for kind, method in methods_of_classes()]
        for place, function in nodes(ast.FunctionDef):
            stored = [node for node in ast.walk(function) if isinstance(node, ast.Attribute)
                      and isinstance(node.ctx, ast.Store)]
            owners = [name for name, method in methods if ast.dump(method) == ast.dump(function)]
            for node in stored:
                self.assertTrue(owners, place)
                self.assertTrue(function.name == "__init__" or set(owners) <= {"Live", "Trial"}, place)
                root = node.value.value if isinstance(node.value, ast.Attribute) else node.value
                self.assertIsInstance(root, ast.Name, place)
                self.assertIn(root.id, ("self", "other"), place)


class Blocks(unittest.TestCase):
    """The rows about `with`, `__enter__` and `__exit__`."""

    def test_with_goes_over_an_own_object(self):
        managers = [kind.name for kind, method in methods_of_classes() if method.name == "__exit__"]
        self.assertEqual(managers, [kind.name for kind, method in methods_of_classes() if method.name == "__enter__"])
        inside = [node for _, function in nodes(ast.FunctionDef) for node in ast.walk(function) if isinstance(node, ast.With)]
        found = list(nodes(ast.With))
        self.assertEqual(len(found), len(inside))
        for place, node in found:
            for item in node.items:
                self.assertIn(call_name_of(item.context_expr), managers, place)
                self.assertTrue(item.optional_vars is None or isinstance(item.optional_vars, ast.Name), place)

    def test_rows_of_exit(self):
        """Attributes that are assigned attributes, and nothing else, not even a docstring."""
        for kind, method in methods_of_classes():
            if method.name == "__exit__":
                for node in method.body:
                    self.assertIsInstance(node, ast.Assign, kind.name)
                    self.assertEqual([type(target) for target in node.targets], [ast.Attribute], kind.name)
                    self.assertIsInstance(node.value, ast.Attribute, kind.name)
                read = [node.id for node in ast.walk(method) if isinstance(node, ast.Name)]
                self.assertEqual(set(read), {"self"}, kind.name)


class Calls(unittest.TestCase):
    KEYWORDS = {"sorted": ["key", "reverse"], "min": ["key", "default"], "max": ["key", "default"], "sum": ["start"],
                "enumerate": ["start"], "zip": ["strict"]}

    def test_keywords_of_builtins(self):
        for path in FILES:
            own = {name for node in tree_of(path).body for name in names_bound_by(node)}
            for node in ast.walk(tree_of(path)):
                if isinstance(node, ast.Call):
                    name = call_name(node)
                    named = [item.arg for item in node.keywords]
                    self.assertNotIn(None, named, f"{path.name}:{node.lineno}")
                    if isinstance(node.func, ast.Name) and name not in own:
                        self.assertLessEqual(set(named), set(self.KEYWORDS.get(name, [])), f"{path.name}:{node.lineno}")
                    if isinstance(node.func, ast.Attribute):
                        self.assertEqual(named, [], f"{path.name}:{node.lineno}")
                    if "default" in named:
                        self.assertEqual(len(node.args), 1, f"{path.name}:{node.lineno}")

    def test_keys_of_sorted_are_own_functions(self):
        for path in FILES:
            own = {node.name for node in tree_of(path).body if isinstance(node, ast.FunctionDef)}
            for node in ast.walk(tree_of(path)):
                if isinstance(node, ast.keyword) and node.arg == "key":
                    self.assertIn(getattr(node.value, "id", None), own, path)

    def test_own_functions_and_classes_get_what_they_take(self):
        for path in FILES:
            names = vars(importlib.import_module(module_of(path)))
            for node in ast.walk(tree_of(path)):
                if isinstance(node, ast.Call) and isinstance(node.func, ast.Name) and node.func.id in names:
                    self.assertFalse([item for item in node.args if isinstance(item, ast.Starred)])
                    given = {item.arg: None for item in node.keywords}
                    if names[node.func.id] in (errors.MismatchedBooks, errors.NothingToUndo):
                        self.assertFalse(node.args or given, f"{path.name}:{node.lineno}")
                    else:
                        inspect.signature(names[node.func.id]).bind(*node.args, **given)

    def test_own_methods_get_what_they_take(self):
        """A method that is called by `self` is one of the class, and gets what it takes."""
        for kind, method in methods_of_classes():
            table = {item.name: item for item in kind.body if isinstance(item, ast.FunctionDef)}
            for node in ast.walk(method):
                if isinstance(node, ast.Call) and getattr(getattr(node.func, "value", None), "id", None) == "self":
                    self.assertEqual(len(table[node.func.attr].args.args), len(node.args) + 1, kind.name)

    def test_values_of_functions(self):
        """Own functions are called, not kept or passed on, but as the key of sorted(..)."""
        for path in FILES:
            tree = tree_of(path)
            own = {name for node in tree.body if isinstance(node, (ast.FunctionDef, ast.ImportFrom)) for name in names_bound_by(node)}
            called = [node.func for node in ast.walk(tree) if isinstance(node, ast.Call)]
            called += [node.value for node in ast.walk(tree) if isinstance(node, ast.keyword) and node.arg == "key"]
            classes = [node.name for node in own_classes()]
            for node in ast.walk(tree):
                if isinstance(node, ast.Name) and isinstance(node.ctx, ast.Load) and node.id in own and node.id not in classes:
                    self.assertIn(node, called, f"{path.name}:{node.lineno}")

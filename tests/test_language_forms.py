"""More rules of ../shared/LANGUAGE.md: the forms of statements, calls, names and classes."""

import ast
import unittest

from tests.test_language import each_file

LISTED_METHODS = set(
    "append clear copy count endswith extend find get index insert isalnum isalpha isdigit islower isspace isupper"
    " items join keys ljust lower lstrip partition pop remove replace reverse rfind rjust rpartition rsplit rstrip"
    " setdefault split splitlines startswith strip update upper values zfill bit_length".split()
)
BUILTIN_KEYWORDS = {
    "sorted": ("key", "reverse"), "min": ("key", "default"), "max": ("key", "default"), "sum": ("start",),
    "enumerate": ("start",), "zip": ("strict",),
}
ITERATED_AT_ONCE = ("zip", "enumerate", "reversed", "range")
ITERATING = ("list", "tuple", "dict", "sorted", "sum", "any", "all", "enumerate", "zip", "min", "max")
DOUBLE_METHODS = ("__init__", "__eq__", "__repr__", "__str__", "__len__")
TAKEN_ATTRIBUTES = set(
    "items keys values pop update append clear extend insert remove reverse setdefault sort args encode decode hex"
    " fromhex format".split()
)
BUILTIN_KINDS = (str, int, list, dict, set, bytes, tuple)


def name_of(call):
    """The plain name that is called, None where it is none."""
    return call.func.id if isinstance(call, ast.Call) and isinstance(call.func, ast.Name) else None


def with_parents(tree):
    """Each node with the one around it."""
    for node in ast.walk(tree):
        for child in ast.iter_child_nodes(node):
            yield child, node


def functions_of(tree):
    return [node for node in ast.walk(tree) if isinstance(node, ast.FunctionDef)]


def classes_of(tree):
    return [node for node in tree.body if isinstance(node, ast.ClassDef)]


class FormsTest(unittest.TestCase):

    def test_module_level(self):
        for file, text, tree in each_file():
            bound = []
            for at, node in enumerate(tree.body):
                if isinstance(node, ast.Expr):
                    self.assertEqual(at, 0, file)
                    self.assertIsInstance(node.value.value, str, file)
                elif isinstance(node, ast.Assign):
                    self.assertEqual(len(node.targets), 1, file)
                    bound.append(node.targets[0].id)
                    self.check_table(file, node.value)
                elif isinstance(node, ast.ImportFrom):
                    bound.extend([alias.asname or alias.name for alias in node.names])
                else:
                    self.assertIsInstance(node, (ast.FunctionDef, ast.ClassDef), file)
                    bound.append(node.name)
            self.assertEqual(sorted(bound), sorted(set(bound)), file)

    def check_table(self, file, value):
        """No list or dict stands within another one; no comprehension and no call at module level."""
        for child in ast.walk(value):
            self.assertNotIsInstance(child, (ast.ListComp, ast.DictComp, ast.SetComp, ast.Call, ast.Set), file)
            if child is not value:
                self.assertNotIsInstance(child, (ast.List, ast.Dict), file)

    def test_lists_and_dicts_of_a_module_are_only_read(self):
        tables = {}
        for file, text, tree in each_file():
            for node in tree.body:
                if isinstance(node, ast.Assign) and isinstance(node.value, (ast.Dict, ast.List)):
                    tables[node.targets[0].id] = file
        for file, text, tree in each_file():
            for node, around in with_parents(tree):
                if isinstance(node, ast.Name) and isinstance(node.ctx, ast.Load) and node.id in tables:
                    self.assertTrue(self.is_read_only(node, around), f"{file}: {node.lineno}: {node.id}")

    def is_read_only(self, node, around):
        if isinstance(around, ast.Subscript):
            return around.value is node and isinstance(around.ctx, ast.Load)
        if isinstance(around, (ast.Compare, ast.comprehension, ast.For)):
            return True
        if isinstance(around, ast.Attribute):
            return around.attr == "get"
        return name_of(around) in ("len", "sorted", "list", "dict", "tuple")

    def test_no_two_files_import_from_each_other(self):
        needs = {}
        for file, text, tree in each_file():
            needs[file] = [node.module.split(".")[1] + ".py" for node in tree.body if isinstance(node, ast.ImportFrom)]
        for file in needs:
            reached, waiting = [], list(needs[file])
            while waiting:
                other = waiting.pop()
                if other not in reached:
                    reached.append(other)
                    waiting.extend(needs[other])
            self.assertNotIn(file, reached)

    def test_what_is_imported_is_defined_there_and_used(self):
        defined = {}
        for file, text, tree in each_file():
            defined[file] = [node.name for node in tree.body if isinstance(node, (ast.FunctionDef, ast.ClassDef))]
            defined[file] += [node.targets[0].id for node in tree.body if isinstance(node, ast.Assign)]
        for file, text, tree in each_file():
            used = [node.id for node in ast.walk(tree) if isinstance(node, ast.Name)]
            for node in tree.body:
                if isinstance(node, ast.ImportFrom):
                    for alias in node.names:
                        self.assertIn(alias.name, defined[node.module.split(".")[1] + ".py"], file)
                        self.assertIn(alias.name, used, file)

    def test_locals_have_no_name_of_a_class_an_import_or_a_function(self):
        for file, text, tree in each_file():
            taken = [node.name for node in tree.body if isinstance(node, (ast.ClassDef, ast.FunctionDef))]
            for node in tree.body:
                if isinstance(node, ast.ImportFrom):
                    taken += [alias.name for alias in node.names]
            for function in functions_of(tree):
                for node in ast.walk(function):
                    if isinstance(node, ast.arg):
                        self.assertNotIn(node.arg, taken, f"{file}: {function.name}")
                    if isinstance(node, ast.Name) and isinstance(node.ctx, ast.Store):
                        self.assertNotIn(node.id, taken, f"{file}: {function.name}")

    def test_is_stands_beside_none_and_truths_only(self):
        for file, text, tree in each_file():
            for node in ast.walk(tree):
                if isinstance(node, ast.Compare):
                    for sign, side in zip(node.ops, node.comparators):
                        if isinstance(sign, (ast.Is, ast.IsNot)):
                            self.assertIsInstance(side, ast.Constant, file)
                            self.assertIn(side.value, (None, True, False), file)

    def test_no_form_that_is_barred(self):
        barred = (ast.GeneratorExp, ast.Match, ast.With, ast.Yield, ast.YieldFrom, ast.NamedExpr, ast.Nonlocal, ast.Pow)
        for file, text, tree in each_file():
            for node in ast.walk(tree):
                self.assertNotIsInstance(node, barred, file)
                if isinstance(node, (ast.FunctionDef, ast.ClassDef)):
                    self.assertEqual(node.decorator_list, [], file)
                if isinstance(node, ast.Try):
                    self.assertEqual(node.finalbody, [], file)

    def test_sets_stand_where_they_may(self):
        for file, text, tree in each_file():
            for node, around in with_parents(tree):
                is_set = isinstance(node, (ast.Set, ast.SetComp)) or name_of(node) in ("set", "frozenset")
                if is_set:
                    self.assertTrue(
                        name_of(around) in ("sorted", "len") or isinstance(around, ast.Compare), f"{file}: {node.lineno}"
                    )

    def test_what_is_iterated_at_once(self):
        for file, text, tree in each_file():
            for node, around in with_parents(tree):
                is_view = (isinstance(node, ast.Call) and isinstance(node.func, ast.Attribute)
                           and node.func.attr in ("items", "keys", "values"))
                if name_of(node) in ITERATED_AT_ONCE or is_view:
                    iterated = isinstance(around, (ast.For, ast.comprehension)) and around.iter is node
                    self.assertTrue(iterated or name_of(around) in ITERATING, f"{file}: {node.lineno}")

    def test_calls_of_builtins(self):
        for file, text, tree in each_file():
            own = [node.name for node in ast.walk(tree) if isinstance(node, (ast.FunctionDef, ast.ClassDef))]
            imported = [alias.name for node in tree.body if isinstance(node, ast.ImportFrom) for alias in node.names]
            for node in ast.walk(tree):
                name = name_of(node)
                if name is not None and name not in own + imported:
                    keywords = [keyword.arg for keyword in node.keywords]
                    self.assertEqual([word for word in keywords if word not in BUILTIN_KEYWORDS.get(name, ())], [], file)

    def test_methods_that_are_called(self):
        own = []
        for file, text, tree in each_file():
            own += [part.name for node in classes_of(tree) for part in node.body if isinstance(part, ast.FunctionDef)]
        for file, text, tree in each_file():
            for node in ast.walk(tree):
                if isinstance(node, ast.Call) and isinstance(node.func, ast.Attribute):
                    self.assertIn(node.func.attr, LISTED_METHODS | set(own) | {"__init__"}, f"{file}: {node.lineno}")
                    if node.func.attr in LISTED_METHODS:
                        self.assertEqual(node.keywords, [], file)
                    if node.func.attr == "join":
                        self.assertIsInstance(node.func.value, ast.Constant, f"{file}: {node.lineno}")

    def test_attributes_that_are_read_are_assigned(self):
        known = set()
        for file, text, tree in each_file():
            for node in ast.walk(tree):
                if isinstance(node, ast.Attribute) and isinstance(node.ctx, ast.Store):
                    known.add(node.attr)
                if isinstance(node, ast.ClassDef):
                    known.update([part.name for part in node.body if isinstance(part, ast.FunctionDef)])
        for file, text, tree in each_file():
            for node in ast.walk(tree):
                if isinstance(node, ast.Attribute) and node.attr not in LISTED_METHODS:
                    self.assertIn(node.attr, known | {"__init__"}, f"{file}: {node.lineno}")

    def test_names_of_methods_and_attributes(self):
        taken = {name for kind in BUILTIN_KINDS for name in dir(kind)} - set(dir(object))
        free = {"count", "index", "title", "find", "get", "join", "lower", "upper", "split", "strip", "copy", "add"}
        for file, text, tree in each_file():
            for node in classes_of(tree):
                for part in node.body:
                    if isinstance(part, ast.FunctionDef) and part.name not in DOUBLE_METHODS:
                        self.assertNotIn(part.name, taken, file)
                    elif isinstance(part, ast.FunctionDef):
                        self.assertIn(part.name, DOUBLE_METHODS, file)
                    else:
                        self.assertIsInstance(part, ast.Expr, file)
            for node in ast.walk(tree):
                if isinstance(node, ast.Attribute) and isinstance(node.ctx, ast.Store):
                    self.assertNotIn(node.attr, (taken - free) | TAKEN_ATTRIBUTES, f"{file}: {node.lineno}")

    def test_attributes_are_assigned_through_a_local_name(self):
        for file, text, tree in each_file():
            for node in ast.walk(tree):
                if isinstance(node, ast.Attribute) and isinstance(node.ctx, ast.Store):
                    self.assertIsInstance(node.value, ast.Name, f"{file}: {node.lineno}")

    def test_double_methods(self):
        for file, text, tree in each_file():
            for node in classes_of(tree):
                for part in node.body:
                    if isinstance(part, ast.FunctionDef) and part.name in DOUBLE_METHODS[1:]:
                        self.check_double_method(f"{file}: {node.name}", part)

    def check_double_method(self, where, method):
        returns = [node.value for node in ast.walk(method) if isinstance(node, ast.Return)]
        self.assertIsInstance(method.body[-1], ast.Return, where)
        for node in ast.walk(method):
            self.assertNotIsInstance(node, (ast.Assign, ast.AugAssign, ast.Delete), where)
        for told in returns:
            if method.name == "__len__":
                self.assertEqual(name_of(told), "len", where)
            if method.name in ("__repr__", "__str__"):
                is_join = isinstance(told, ast.Call) and isinstance(told.func, ast.Attribute)
                self.assertTrue(isinstance(told, ast.JoinedStr) or is_join, where)

    def test_errors(self):
        own = []
        for file, text, tree in each_file():
            if file == "errors.py":
                own = [node.name for node in classes_of(tree)]
        for file, text, tree in each_file():
            for node in ast.walk(tree):
                if isinstance(node, ast.ExceptHandler):
                    caught = node.type.elts if isinstance(node.type, ast.Tuple) else [node.type]
                    for name in caught:
                        self.assertIn(name.id, own, f"{file}: {node.lineno}")
                if isinstance(node, ast.Raise) and node.exc is not None:
                    self.assertIn(name_of(node.exc), own, f"{file}: {node.lineno}")

    def test_what_a_loop_iterates_over_is_not_changed_in_it(self):
        changing = ("append", "extend", "insert", "pop", "remove", "clear", "reverse", "update", "setdefault")
        for file, text, tree in each_file():
            for node in ast.walk(tree):
                if isinstance(node, ast.For):
                    over = [ast.dump(part) for part in ast.walk(node.iter) if isinstance(part, (ast.Name, ast.Attribute))]
                    for inner in [part for row in node.body for part in ast.walk(row)]:
                        if isinstance(inner, ast.Call) and isinstance(inner.func, ast.Attribute):
                            if inner.func.attr in changing:
                                self.assertNotIn(ast.dump(inner.func.value), over, f"{file}: {node.lineno}")
                        if isinstance(inner, ast.Subscript) and not isinstance(inner.ctx, ast.Load):
                            self.assertNotIn(ast.dump(inner.value), over, f"{file}: {node.lineno}")

    def test_two_lambdas_do_not_stand_on_one_line(self):
        for file, text, tree in each_file():
            lines = [node.lineno for node in ast.walk(tree) if isinstance(node, ast.Lambda)]
            self.assertEqual(len(lines), len(set(lines)), file)


if __name__ == "__main__":
    unittest.main()

"""The form of the package's files, as far as a test can see it.

../shared/LANGUAGE.md has the rules. Here stand those that can be told without
doubt; the others are for the reader.
"""

import ast
import builtins
import inspect
import os
import unittest

import orderrules
from orderrules import (
    comparing, counting, errors, forms, partings, reading, rules, shelves, signs, steady, telling, ties,
)

FOLDER = os.path.dirname(os.path.abspath(orderrules.__file__))

LIBRARY = {
    "heapq": {"heappush", "heappop", "heapify", "heapreplace", "heappushpop"},
    "math": {"gcd", "lcm", "isqrt", "comb", "perm", "factorial"},
    "itertools": {"product", "combinations", "permutations", "chain", "accumulate", "pairwise",
                  "islice", "zip_longest"},
    "collections": {"defaultdict", "deque"},
    "__future__": {"annotations"},
}

BUILTINS = set(dir(builtins))

ALLOWED_BUILTINS = set(
    "len range enumerate zip min max sum abs sorted reversed int str bool bytes list tuple dict "
    "set frozenset isinstance ord repr any all divmod pow getattr hasattr setattr iter next map "
    "type Exception ValueError TypeError KeyError IndexError LookupError ZeroDivisionError "
    "ArithmeticError OverflowError RuntimeError NotImplementedError AttributeError StopIteration "
    "NotImplemented".split()
)

METHODS = set(
    "append clear copy count endswith extend find get index insert isalnum isalpha isdigit islower "
    "isspace isupper items join keys ljust lower lstrip partition pop remove replace reverse rfind "
    "rjust rpartition rsplit rstrip setdefault sort split splitlines startswith strip update upper "
    "values zfill add discard".split()
)

ITERATING = {"list", "tuple", "dict", "sorted", "sum", "any", "all", "enumerate", "zip", "min", "max",
             "combinations", "permutations", "product"}

INTERFACE = [
    (errors, {"OrderError": None, "BadRule": None, "BadText": None, "BadNumber": None,
              "NotFound": None}),
    (signs, {"is_text": 1, "plain_texts": 1}),
    (rules, {"is_rule": 1, "all_rules": 0}),
    (comparing, {"pieces_of": 2, "compare": 3, "sorted_by": 2, "first_wrong": 2}),
    (reading, {"allows": 2, "remains": 2, "bars": 2, "sorts_so": 3, "sorters": 3}),
    (telling, {"same": 2, "telling_pair": 2, "classes": 1, "telling_table": 1, "mirrors": 2, "finer": 2,
               "ties_alike": 2}),
    (partings, {"all_partings": 1, "pair_for": 2, "signs_needed": 1, "finding_plan": 1}),
    (steady, {"two_compare": 4, "two_same": 3, "two_of": 2, "hides": 2}),
    (ties, {"parts_all": 1, "first_tie": 1}),
    (counting, {"count_ahead": 3, "count_beside": 3, "count_same": 3}),
    (shelves, {"Shelf": 1}),
    (forms, {"format_rule": 1, "parse_rule": 1}),
]

# The arguments behind the object itself.
SHELF = {"put": 1, "texts": 0, "place": 1, "beside": 1, "undo": 0, "__len__": 0}


def package_files():
    """Return the list of the names of the package's files."""
    return sorted(name for name in os.listdir(FOLDER) if name != "__pycache__")


def read(name):
    with open(os.path.join(FOLDER, name), encoding="utf-8", newline="") as file:
        return file.read()


def tree_of(name):
    return ast.parse(read(name))


def assigned_names(tree):
    """Return the list of all names that a file binds, but for its imports."""
    names = []
    for node in ast.walk(tree):
        if isinstance(node, ast.Name) and not isinstance(node.ctx, ast.Load):
            names.append(node.id)
        elif isinstance(node, (ast.FunctionDef, ast.ClassDef)):
            names.append(node.name)
        elif isinstance(node, ast.arg):
            names.append(node.arg)
    return names


class Files(unittest.TestCase):
    def test_names(self):
        for name in package_files():
            self.assertRegex(name, r"^[a-z0-9_]+\.py$")
        self.assertIn("__init__.py", package_files())

    def test_characters_and_sizes(self):
        for name in package_files():
            text = read(name)
            with self.subTest(name=name):
                self.assertTrue(all(sign == "\n" or " " <= sign <= "~" for sign in text))
                self.assertLessEqual(len(text.splitlines()), 399)
                self.assertTrue(all(len(line) <= 120 for line in text.splitlines()))

    def test_functions_are_small(self):
        for name in package_files():
            for node in ast.walk(tree_of(name)):
                if isinstance(node, ast.FunctionDef):
                    with self.subTest(name=name, function=node.name):
                        self.assertLessEqual(node.end_lineno - node.lineno + 1, 40)


class Words(unittest.TestCase):
    def test_statements(self):
        barred = (ast.AsyncFunctionDef, ast.AsyncFor, ast.AsyncWith, ast.Await, ast.Import, ast.Div)
        for name in package_files():
            for node in ast.walk(tree_of(name)):
                with self.subTest(name=name, line=getattr(node, "lineno", None)):
                    self.assertNotIsInstance(node, barred)
                    if isinstance(node, ast.Constant):
                        self.assertNotIsInstance(node.value, (float, complex))
                    if isinstance(node, ast.ExceptHandler):
                        self.assertIsNotNone(node.type)

    def test_module_level(self):
        allowed = (ast.ImportFrom, ast.FunctionDef, ast.ClassDef, ast.Assign, ast.AnnAssign)
        for name in package_files():
            for place, node in enumerate(tree_of(name).body):
                with self.subTest(name=name, line=node.lineno):
                    if place == 0 and isinstance(node, ast.Expr):
                        self.assertIsInstance(node.value, ast.Constant)
                    else:
                        self.assertIsInstance(node, allowed)

    def test_names_bound(self):
        for name in package_files():
            for word in assigned_names(tree_of(name)):
                with self.subTest(name=name, word=word):
                    self.assertFalse(word in BUILTINS and not word.startswith("__"))

    def test_builtins_used(self):
        for name in package_files():
            for node in ast.walk(tree_of(name)):
                if isinstance(node, ast.Name) and node.id in BUILTINS:
                    with self.subTest(name=name, line=node.lineno):
                        self.assertIn(node.id, ALLOWED_BUILTINS)


    def test_module_level_values(self):
        # A tuple, a list or a dict holds plain values, and tuples of these.
        for name in package_files():
            for node in tree_of(name).body:
                if isinstance(node, ast.Assign):
                    with self.subTest(name=name, line=node.lineno):
                        self.assertTrue(self.is_plain(ast.literal_eval(node.value), True))

    def is_plain(self, value, outside):
        if isinstance(value, tuple):
            return all(self.is_plain(item, False) for item in value)
        if isinstance(value, list):
            return outside and all(self.is_plain(item, False) for item in value)
        if isinstance(value, dict):
            return outside and all(self.is_plain(item, False) for pair in value.items() for item in pair)
        return isinstance(value, (int, str)) or value is None

    def test_exponents(self):
        # An exponent is the variable of a comprehension over a range of literals.
        for name in package_files():
            nodes = list(ast.walk(tree_of(name)))
            allowed = [power for node in nodes if isinstance(node, ast.ListComp)
                       for power in ast.walk(node) if isinstance(power, ast.BinOp)
                       and ast.unparse(node.generators[0].iter) == "range(21)"
                       and ast.unparse(power.right) == ast.unparse(node.generators[0].target)]
            for power in nodes:
                if isinstance(power, ast.BinOp) and isinstance(power.op, ast.Pow):
                    with self.subTest(name=name, line=power.lineno):
                        self.assertIn(ast.dump(power), [ast.dump(node) for node in allowed])


class Calls(unittest.TestCase):
    """What L23 and L25 say of calls."""

    def test_methods(self):
        for name in package_files():
            tree = tree_of(name)
            own = {method.name for node in ast.walk(tree) if isinstance(node, ast.ClassDef)
                   for method in node.body if isinstance(method, ast.FunctionDef)}
            for node in ast.walk(tree):
                if isinstance(node, ast.Call) and isinstance(node.func, ast.Attribute):
                    with self.subTest(name=name, line=node.lineno):
                        self.assertIn(node.func.attr, METHODS | own)

    def test_ranges_and_views_are_iterated_at_once(self):
        for name in package_files():
            for parent in ast.walk(tree_of(name)):
                for node in ast.iter_child_nodes(parent):
                    if self.is_view(node):
                        with self.subTest(name=name, line=node.lineno):
                            self.assertTrue(self.iterates(parent, node))

    def is_view(self, node):
        if not isinstance(node, ast.Call):
            return False
        if isinstance(node.func, ast.Name):
            return node.func.id in ("range", "zip", "enumerate", "reversed")
        return isinstance(node.func, ast.Attribute) and node.func.attr in ("items", "keys", "values")

    def iterates(self, parent, node):
        if isinstance(parent, (ast.For, ast.comprehension)):
            return parent.iter is node
        if isinstance(parent, ast.Call) and isinstance(parent.func, ast.Name):
            return parent.func.id in ITERATING and parent.args[0] is node
        return False


class Imports(unittest.TestCase):
    def imports(self, name):
        """Return the list of pairs (module, imported name) of a file."""
        found = []
        for node in ast.walk(tree_of(name)):
            if isinstance(node, ast.ImportFrom):
                self.assertEqual(node.level, 0)
                found.extend((node.module, alias.name) for alias in node.names)
        return found

    def test_from_the_package_or_the_library(self):
        for name in package_files():
            for module, word in self.imports(name):
                with self.subTest(name=name, module=module, word=word):
                    if module in LIBRARY:
                        self.assertIn(word, LIBRARY[module])
                    else:
                        self.assertTrue(module.startswith("orderrules."))
                        self.assertIn(word, self.defined(module.split(".")[1] + ".py"))

    def defined(self, name):
        """Return the list of the names that a file itself defines at module level."""
        names = []
        for node in tree_of(name).body:
            if isinstance(node, (ast.FunctionDef, ast.ClassDef)):
                names.append(node.name)
            elif isinstance(node, ast.Assign):
                names.extend(target.id for target in node.targets)
        return names

    def test_no_circles(self):
        needs = {
            name: {module.split(".")[1] + ".py" for module, _ in self.imports(name)
                   if module.startswith("orderrules.")}
            for name in package_files()
        }
        while needs:
            ready = [name for name in needs if not needs[name] & set(needs)]
            self.assertTrue(ready, needs)
            for name in ready:
                del needs[name]


class Interface(unittest.TestCase):
    def test_names_files_and_arguments(self):
        for module, names in INTERFACE:
            for name, arguments in names.items():
                with self.subTest(module=module.__name__, name=name):
                    value = getattr(module, name)
                    self.assertEqual(value.__module__, module.__name__)
                    if arguments is not None:
                        self.assertEqual(len(inspect.signature(value).parameters), arguments)

    def test_methods_of_the_class(self):
        for name, arguments in SHELF.items():
            with self.subTest(name=name):
                method = vars(shelves.Shelf)[name]
                self.assertEqual(len(inspect.signature(method).parameters), arguments + 1)

    def test_each_is_defined_in_its_file(self):
        for module, names in INTERFACE:
            own = [node.name for node in tree_of(module.__name__.split(".")[1] + ".py").body
                   if isinstance(node, (ast.FunctionDef, ast.ClassDef))]
            self.assertLessEqual(set(names), set(own))


if __name__ == "__main__":
    unittest.main()

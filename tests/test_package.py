"""The rules of LANGUAGE.md that can be seen line by line (L1, L2, L4 to L8, L10, L14 to L18, L20, L23 to L25)."""

import ast
import builtins
import pathlib
import unittest

FOLDER = pathlib.Path(__file__).parent.parent / "braidwords"
FILES = sorted(path for path in FOLDER.rglob("*") if path.is_file() and path.suffix != ".pyc")

# The functions, classes and errors of Python that a file may name.
ALLOWED = set(
    "len range enumerate zip map min max sum abs sorted reversed int str bool bytes list tuple dict set isinstance ord "
    "repr any all divmod pow getattr hasattr setattr iter next type super property classmethod staticmethod object "
    "Exception ValueError TypeError KeyError IndexError LookupError ZeroDivisionError ArithmeticError OverflowError "
    "RuntimeError NotImplementedError AttributeError StopIteration NotImplemented".split())

LIBRARY = {
    "heapq": {"heappush", "heappop", "heapify", "heapreplace", "heappushpop"},
    "math": {"gcd", "lcm", "isqrt", "comb", "perm", "factorial"},
    "itertools": {"product", "combinations", "permutations", "chain", "accumulate", "pairwise", "islice",
                  "zip_longest"},
    "collections": {"defaultdict", "deque"},
}

# The methods of builtin values; what else is called off a value is a method of the package.
METHODS = set(
    "append clear copy count endswith extend find get index insert isalnum isalpha isdigit islower isspace isupper "
    "items join keys ljust lower lstrip partition pop remove replace reverse rfind rjust rpartition rsplit rstrip "
    "setdefault split splitlines startswith strip update upper values zfill bit_length".split())

BARRED = set("mro elements open input law version_info with_traceback add_note register".split())


class PackageTest(unittest.TestCase):
    def trees(self):
        for path in FILES:
            yield path.name, ast.parse(path.read_text())

    def test_files(self):
        self.assertIn(FOLDER / "__init__.py", FILES)
        for path in FILES:
            self.assertRegex(path.name, r"\A[a-z0-9_]+\.py\Z")

    def test_characters_and_sizes(self):
        for path in FILES:
            data = path.read_bytes()
            self.assertLessEqual(set(data), {10, *range(32, 127)}, path.name)
            lines = data.decode().split("\n")
            self.assertLessEqual(len(lines), 400, path.name)
            self.assertLessEqual(max(map(len, lines)), 120, path.name)

    def test_sizes_of_functions(self):
        for name, tree in self.trees():
            for node in ast.walk(tree):
                if isinstance(node, ast.FunctionDef):
                    self.assertLessEqual(node.end_lineno - node.lineno + 1, 40, (name, node.name))

    def test_imports(self):
        for name, tree in self.trees():
            for node in ast.walk(tree):
                self.assertNotIsInstance(node, ast.Import, name)
                if isinstance(node, ast.ImportFrom):
                    self.assertIn(node, tree.body, name)
                    self.assert_right_import(node)

    def assert_right_import(self, node):
        self.assertEqual(node.level, 0)
        for alias in node.names:
            self.assertNotEqual(alias.name, "*")
            self.assertIsNone(alias.asname)
            if node.module in LIBRARY:
                self.assertIn(alias.name, LIBRARY[node.module])
            else:
                path = FOLDER.parent / (node.module.replace(".", "/") + ".py")
                self.assertIn(path, FILES)
                self.assertIn(alias.name, self.bound(ast.parse(path.read_text())))

    def bound(self, tree):
        """The names that a file itself defines."""
        told = []
        for node in tree.body:
            if isinstance(node, (ast.FunctionDef, ast.ClassDef)):
                told.append(node.name)
            elif isinstance(node, ast.Assign):
                told.extend(target.id for target in node.targets)
        return told

    def test_module_level(self):
        for name, tree in self.trees():
            self.assertIsNotNone(ast.get_docstring(tree), name)
            for node in tree.body[1:]:
                self.assertIsInstance(node, (ast.ImportFrom, ast.FunctionDef, ast.ClassDef, ast.Assign), name)
            bound = self.bound(tree)
            self.assertEqual(len(bound), len(set(bound)), name)

    def test_decorators(self):
        for name, tree in self.trees():
            for node in ast.walk(tree):
                for told in getattr(node, "decorator_list", []):
                    self.assertIn(ast.unparse(told), ("property", "classmethod", "staticmethod"), name)

    def test_names(self):
        for name, tree in self.trees():
            for node in ast.walk(tree):
                if isinstance(node, ast.Name):
                    self.assertNotIn(node.id, BARRED, name)
                    if node.id in dir(builtins):
                        self.assertIn(node.id, ALLOWED, name)
                        self.assertIsInstance(node.ctx, ast.Load, name)
                for told in ("name", "arg", "attr"):
                    self.assertNotIn(getattr(node, told, None), BARRED, name)

    def test_signs(self):
        for name, tree in self.trees():
            for node in ast.walk(tree):
                self.assertNotIsInstance(
                    node, (ast.Global, ast.AsyncFunctionDef, ast.Await, ast.Div, ast.MatMult), name)
                if isinstance(node, ast.Constant):
                    self.assertNotIsInstance(node.value, (float, complex), name)

    def test_methods(self):
        trees = list(self.trees())
        own = {node.name for _, tree in trees for node in ast.walk(tree) if isinstance(node, ast.FunctionDef)}
        for name, tree in trees:
            for node in ast.walk(tree):
                if isinstance(node, ast.Call) and isinstance(node.func, ast.Attribute):
                    self.assertIn(node.func.attr, METHODS | own, name)

    def test_lists_instead_of_generator_expressions(self):
        # A class here has an __eq__, so any, all, sum and their kind take a list.
        for name, tree in self.trees():
            for node in ast.walk(tree):
                self.assertNotIsInstance(node, ast.GeneratorExp, name)

    def test_is_only_beside_none_true_false_and_self(self):
        for name, tree in self.trees():
            for node in ast.walk(tree):
                if isinstance(node, ast.Compare):
                    for sign, value in zip(node.ops, node.comparators):
                        if isinstance(sign, (ast.Is, ast.IsNot)) and ast.unparse(node) != "self is other":
                            self.assertIsInstance(value, ast.Constant, name)
                            self.assertIn(value.value, (None, True, False), name)

    def test_an_equal_asks_for_its_class_first(self):
        for name, tree in self.trees():
            for made in [node for node in ast.walk(tree) if isinstance(node, ast.ClassDef)]:
                for node in made.body:
                    if isinstance(node, ast.FunctionDef) and node.name == "__eq__":
                        self.assertTrue(
                            ast.unparse(node.body[0]).startswith(f"return isinstance(other, {made.name}) and "), name)

    def test_no_method_is_read_off_a_class(self):
        # Beside `self is other` (L20), and where a name is a method here and an attribute there (L18).
        made = [node.name for _, tree in self.trees() for node in ast.walk(tree) if isinstance(node, ast.ClassDef)]
        for name, tree in self.trees():
            for node in ast.walk(tree):
                if isinstance(node, ast.Attribute) and isinstance(node.value, ast.Name):
                    self.assertNotIn(node.value.id, made, name)

    def test_names_of_properties(self):
        # A property is no method and no attribute, in whatever class (L5, L18).
        properties, methods, stored = set(), set(), set()
        for _, tree in self.trees():
            for made in [node for node in ast.walk(tree) if isinstance(node, ast.ClassDef)]:
                for node in [node for node in made.body if isinstance(node, ast.FunctionDef)]:
                    told = [ast.unparse(x) for x in node.decorator_list]
                    (properties if told == ["property"] else methods).add(node.name)
            for node in ast.walk(tree):
                if isinstance(node, ast.Attribute) and isinstance(node.ctx, ast.Store):
                    stored.add(node.attr)
        self.assertFalse(properties & methods)
        self.assertFalse((properties | methods) & stored)
        self.assertFalse(properties & METHODS)

    def test_rows_of_an_exit(self):
        for name, tree in self.trees():
            for node in ast.walk(tree):
                if isinstance(node, ast.FunctionDef) and node.name == "__exit__":
                    self.assertEqual([x.arg for x in node.args.args], ["self", "kind", "value", "trace"])
                    for row in ast.walk(node):
                        self.assertNotIsInstance(row, (ast.Call, ast.Subscript, ast.Raise, ast.For, ast.While), name)
                        if isinstance(row, ast.Name):
                            self.assertNotIn(row.id, ("value", "trace"), name)
                        if isinstance(row, ast.If):
                            self.assert_asks_for_none(row.test)
                        self.assertNotIsInstance(row, (ast.IfExp, ast.Assert, ast.Match), name)

    def assert_asks_for_none(self, test):
        """Beside an `__eq__` a test of an `__exit__` asks `is None` or `is not None` of names and attributes alone."""
        if isinstance(test, ast.BoolOp):
            for value in test.values:
                self.assert_asks_for_none(value)
        elif isinstance(test, ast.UnaryOp):
            self.assertIsInstance(test.op, ast.Not)
            self.assert_asks_for_none(test.operand)
        else:
            self.assertIsInstance(test, ast.Compare, ast.unparse(test))
            self.assertIsInstance(test.left, (ast.Name, ast.Attribute), ast.unparse(test))
            self.assertIn(ast.unparse(test)[len(ast.unparse(test.left)):], (" is None", " is not None"))

    def test_what_properties_and_operators_run(self):
        # They change nothing, and call nothing that they are handed or hold, nor does what they call (L5).
        stored = {node.attr for _, tree in self.trees() for node in ast.walk(tree)
                  if isinstance(node, ast.Attribute) and isinstance(node.ctx, ast.Store)}
        self.assertIn("index", stored)
        for name, node in self.run_by_properties_and_operators():
            for row in ast.walk(node):
                if isinstance(row, ast.Call):
                    self.assert_right_call(name, row, stored)
                self.assertNotIsInstance(row, (ast.Delete, ast.Yield, ast.YieldFrom, ast.Nonlocal), (name, node.name))
                if isinstance(row, (ast.Attribute, ast.Subscript)):
                    self.assertIsInstance(row.ctx, ast.Load, (name, node.name, ast.unparse(row)))

    def assert_right_call(self, name, row, stored):
        """A call of a function or class by its bare name, or of a method that is none of an own object."""
        if isinstance(row.func, ast.Name):
            self.assertIn(row.func.id, {*ALLOWED, *self.reachable(name)}, (name, ast.unparse(row)))
            self.assertNotIn(row.func.id, ("map", "setattr"), (name, ast.unparse(row)))
        else:
            self.assertIsInstance(row.func, ast.Attribute, (name, ast.unparse(row)))
            self.assertNotIn(row.func.attr, stored, (name, ast.unparse(row)))
            # None of them creates what it could change.
            self.assertIn(row.func.attr, ("join", "get", "split"), (name, ast.unparse(row)))

    def reachable(self, name):
        """For each function and class that a file has, own or imported, its file and its definition."""
        told = {}
        tree = ast.parse((FOLDER / name).read_text())
        for node in tree.body:
            if isinstance(node, (ast.FunctionDef, ast.ClassDef)):
                told[node.name] = (name, node)
            elif isinstance(node, ast.ImportFrom):
                path = node.module.split(".")[-1] + ".py"
                for made in ast.parse((FOLDER / path).read_text()).body:
                    if getattr(made, "name", None) in [alias.name for alias in node.names]:
                        told[made.name] = (path, made)
        return told

    def run_by_properties_and_operators(self):
        """The files and definitions of all that they run, themselves too; what is only created is not gone into."""
        ahead = []
        for name, tree in self.trees():
            for made in [node for node in tree.body if isinstance(node, ast.ClassDef)]:
                for node in [node for node in made.body if isinstance(node, ast.FunctionDef)]:
                    free = node.name in ("__init__", "__enter__", "__exit__") or not node.name.startswith("__")
                    if not free or "property" in [ast.unparse(x) for x in node.decorator_list]:
                        ahead.append((name, node))
        self.assertIn(("boards.py", "length"), [(name, node.name) for name, node in ahead])
        found = {}
        while ahead:
            name, node = ahead.pop()
            if (name, node.name, node.lineno) not in found:
                found[name, node.name, node.lineno] = name, node
                there = self.reachable(name)
                called = [there[x.id] for x in ast.walk(node) if isinstance(x, ast.Name) and x.id in there]
                ahead.extend([(path, made) for path, made in called if isinstance(made, ast.FunctionDef)])
        self.assertIn(("heights.py", "put_ahead"), [(name, node.name) for name, node in found.values()])
        return list(found.values())

    def test_locals_do_not_hide_what_the_file_binds(self):
        for name, tree in self.trees():
            told = {node.name for node in tree.body if isinstance(node, (ast.FunctionDef, ast.ClassDef))}
            told |= {alias.name for node in tree.body if isinstance(node, ast.ImportFrom) for alias in node.names}
            for node in ast.walk(tree):
                if isinstance(node, ast.arg):
                    self.assertNotIn(node.arg, told, name)
                elif isinstance(node, ast.Name) and isinstance(node.ctx, ast.Store):
                    self.assertNotIn(node.id, told, name)

    def test_no_two_files_import_from_each_other(self):
        needs = {}
        for name, tree in self.trees():
            modules = [node.module for node in tree.body if isinstance(node, ast.ImportFrom)]
            needs[name] = {module.split(".")[-1] + ".py" for module in modules}
        # The name of that file is one that L17 bars; it must exist, but no other file needs to name it.
        self.assertNotIn("elements.py", set().union(*needs.values()))
        while needs:
            free = [name for name in needs if not needs[name] & set(needs)]
            self.assertNotEqual(free, [])
            for name in free:
                del needs[name]


if __name__ == "__main__":
    unittest.main()

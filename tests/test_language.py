"""The rules of LANGUAGE.md that a short look at the syntax tree can see, for every file of the package."""

import ast
import builtins
import os
import re
import unittest

ROOT = os.path.dirname(os.path.dirname(os.path.abspath(__file__)))
PACKAGE = os.path.join(ROOT, "lastturn")
BUILTINS = {"len", "range", "enumerate", "zip", "min", "max", "sum", "abs", "sorted", "reversed", "int", "str", "bool",
            "list", "tuple", "dict", "set", "isinstance", "ord", "repr", "any", "all", "divmod", "ValueError", "KeyError",
            "IndexError", "ArithmeticError"}
METHODS = set("append clear copy count endswith extend find get index insert isalnum isalpha isdigit islower isspace "
              "isupper items join keys ljust lower lstrip partition pop remove replace reverse rfind rjust rpartition "
              "rsplit rstrip setdefault split splitlines startswith strip update upper values zfill bit_length".split())
NODES = set("Module Expr Constant ImportFrom alias FunctionDef arguments arg ClassDef Assign Name Load Store "
            "Del Return If While For Break Continue Pass Raise Try ExceptHandler Delete Call keyword Attribute "
            "Subscript Slice BinOp Add Sub Mult FloorDiv Mod BitOr BitAnd LShift UnaryOp Not USub BoolOp And Or "
            "Compare Eq NotEq Lt LtE Gt GtE Is IsNot In NotIn IfExp List Tuple Dict Set ListComp DictComp "
            "SetComp comprehension Lambda AugAssign Starred JoinedStr FormattedValue Pow".split())
LIBRARY = {"itertools": {"permutations", "product", "combinations"}}
BARRED = set("register mro elements open input law version_info with_traceback add_note type typing enum Enum Flag "
             "Generic Protocol ABC namedtuple NamedTuple exit help id license vars dir eval exec compile".split())
DOUBLE = {"__init__", "__eq__", "__len__", "__repr__", "__str__"}


def files():
    """Return the text and the tree of each file of the package, by its path below the repository."""
    found = {}
    for folder, folders, names in os.walk(PACKAGE):
        folders[:] = [name for name in folders if name != "__pycache__"]
        for name in names:
            path = os.path.join(folder, name)
            with open(path, encoding="utf-8", newline="") as file:
                text = file.read()
            found[os.path.relpath(path, ROOT)] = (text, ast.parse(text))
    return found


FILES = files()


def module_path(module):
    return module.replace(".", os.sep) + ".py"


def bound_names(tree):
    """Return the names that a file binds at module level, as often as it binds them."""
    names = []
    for node in tree.body:
        if isinstance(node, ast.ImportFrom):
            names.extend(alias.asname or alias.name for alias in node.names)
        elif isinstance(node, (ast.FunctionDef, ast.ClassDef)):
            names.append(node.name)
        elif isinstance(node, ast.Assign):
            names.extend(target.id for target in node.targets)
    return names


def local_names(tree):
    """Return the names of parameters, local variables and loops in a file."""
    names = {node.arg for node in ast.walk(tree) if isinstance(node, ast.arg)}
    inner = [part for node in ast.walk(tree) if isinstance(node, ast.FunctionDef) for part in ast.walk(node)]
    return names | {node.id for node in inner if isinstance(node, ast.Name) and isinstance(node.ctx, ast.Store)}


def for_each_file(check):
    """Return a test that makes this check of each file."""
    def test(self):
        for path, (text, tree) in FILES.items():
            with self.subTest(path):
                check(self, path, text, tree)
    return test


class LanguageTest(unittest.TestCase):
    def test_the_package_has_an_init_file(self):
        self.assertIn(os.path.join("lastturn", "__init__.py"), FILES)

    @for_each_file
    def test_files(self, path, text, tree):
        self.assertRegex(path.replace(os.sep, "/"), r"^lastturn/[a-z0-9_]+\.py$")
        self.assertLessEqual(len(text.split("\n")) - 1, 399)
        for line in text.split("\n"):
            self.assertLessEqual(len(line), 120)
            self.assertRegex(line, r"^[ -~]*$")

    @for_each_file
    def test_sizes_of_functions(self, path, text, tree):
        for node in ast.walk(tree):
            if isinstance(node, ast.FunctionDef):
                self.assertLessEqual(node.end_lineno - node.lineno + 1, 40, node.name)
                self.assertEqual(node.decorator_list, [])

    @for_each_file
    def test_syntax(self, path, text, tree):
        for node in ast.walk(tree):
            self.assertIn(type(node).__name__, NODES, getattr(node, "lineno", None))

    @for_each_file
    def test_module_level(self, path, text, tree):
        allowed = (ast.ImportFrom, ast.FunctionDef, ast.ClassDef, ast.Assign)
        for at, node in enumerate(tree.body):
            docstring = at == 0 and isinstance(node, ast.Expr) and isinstance(node.value, ast.Constant)
            self.assertTrue(docstring or isinstance(node, allowed), node.lineno)
            if isinstance(node, ast.Assign):
                self.assertEqual([type(target) for target in node.targets], [ast.Name])
                above = {part.name for part in tree.body[:at] if isinstance(part, ast.FunctionDef)}
                table = isinstance(node.value, ast.Dict) and [
                    part for part in node.value.values if isinstance(part, ast.Name) and part.id in above]
                if table:
                    self.assertEqual(table, node.value.values)
                    self.assertTrue(all(isinstance(key, ast.Constant) for key in node.value.keys))
                else:
                    ast.literal_eval(node.value)
        names = bound_names(tree)
        self.assertEqual(len(names), len(set(names)))

    def test_imports(self):
        graph = {}
        for path, (_, tree) in FILES.items():
            imports = [node for node in ast.walk(tree) if isinstance(node, ast.ImportFrom)]
            self.assertTrue(all(node in tree.body and node.level == 0 for node in imports))
            for node in [node for node in imports if node.module in LIBRARY]:
                self.assertTrue(LIBRARY[node.module].issuperset(alias.name for alias in node.names))
                self.assertEqual([alias.asname for alias in node.names], [None] * len(node.names))
            imports = [node for node in imports if node.module not in LIBRARY]
            for node in imports:
                self.assertTrue(node.module.startswith("lastturn."))
                defined = FILES[module_path(node.module)][1]
                own = [name for name in bound_names(defined)
                       if name not in {alias.name for part in defined.body if isinstance(part, ast.ImportFrom)
                                       for alias in part.names}]
                for alias in node.names:
                    self.assertIn(alias.name, own)
                    self.assertIsNone(alias.asname)
            graph[path] = [module_path(node.module) for node in imports]
        done = set()
        while len(done) < len(graph):
            ready = {path for path in graph if path not in done and done.issuperset(graph[path])}
            self.assertTrue(ready, "files import from each other")
            done |= ready

    @for_each_file
    def test_what_the_library_makes_is_iterated_at_once(self, path, text, tree):
        words = {alias.name for node in tree.body if isinstance(node, ast.ImportFrom) and node.module in LIBRARY
                 for alias in node.names}
        iterated = [node.iter.func for node in ast.walk(tree) if isinstance(node, (ast.For, ast.comprehension))
                    and isinstance(node.iter, ast.Call)]
        for node in ast.walk(tree):
            if isinstance(node, ast.Name) and node.id in words:
                self.assertIn(node, iterated)

    @for_each_file
    def test_names(self, path, text, tree):
        known = set(bound_names(tree)) | local_names(tree)
        for node in ast.walk(tree):
            if isinstance(node, ast.Name) and isinstance(node.ctx, ast.Load) and node.id not in known:
                self.assertIn(node.id, BUILTINS)
        self.assertEqual(local_names(tree) & set(bound_names(tree)), set())
        outside = BARRED | set(dir(builtins))
        self.assertEqual((set(bound_names(tree)) | local_names(tree)) & outside, set())
        for node in ast.walk(tree):
            if isinstance(node, (ast.FunctionDef, ast.Attribute)):
                name = node.name if isinstance(node, ast.FunctionDef) else node.attr
                self.assertTrue(not name.startswith("__") or name in DOUBLE, name)
        self.assertNotIn("_wall", text)

    @for_each_file
    def test_methods(self, path, text, tree):
        own = {node.name for _, tree in FILES.values() for node in ast.walk(tree) if isinstance(node, ast.FunctionDef)}
        for node in ast.walk(tree):
            if isinstance(node, ast.Call) and isinstance(node.func, ast.Attribute):
                self.assertIn(node.func.attr, METHODS | own)

    @for_each_file
    def test_strings(self, path, text, tree):
        for node in ast.walk(tree):
            if isinstance(node, ast.Constant):
                self.assertNotIsInstance(node.value, (float, complex, bytes))
                if isinstance(node.value, str):
                    self.assertNotIn("%", node.value)

    @for_each_file
    def test_exponents_and_stars(self, path, text, tree):
        for node in ast.walk(tree):
            if isinstance(node, ast.BinOp) and isinstance(node.op, ast.Pow):
                self.assertIsInstance(node.right, ast.Constant)
                self.assertIn(node.right.value, range(65))
            if isinstance(node, ast.Call):
                for argument in node.args:
                    if isinstance(argument, ast.Starred):
                        self.assertIsInstance(argument.value, ast.Name)

    @for_each_file
    def test_any_and_all_take_lists(self, path, text, tree):
        # Classes of the package have __eq__, so generator expressions are not passed to these.
        for node in ast.walk(tree):
            self.assertNotIsInstance(node, ast.GeneratorExp)

    @for_each_file
    def test_sets_stand_only_in_len_and_sorted_or_behind_in(self, path, text, tree):
        for found in re.finditer(r"\bset\(", text):
            self.assertRegex(text[:found.start()], r"(len\(|sorted\(|in )$")

"""The rules of ../shared/LANGUAGE.md that a look at the text of the package can tell."""

import ast
import builtins
import os
import re
import unittest

ROOT = os.path.dirname(os.path.dirname(os.path.abspath(__file__)))
PACKAGE = os.path.join(ROOT, "fourmet")
BUILTINS = """len range enumerate zip min max sum abs sorted reversed int str bool list tuple dict set isinstance ord repr
    any all divmod getattr hasattr setattr iter next NotImplemented property staticmethod classmethod super
    Exception ValueError TypeError KeyError IndexError LookupError ZeroDivisionError ArithmeticError OverflowError
    RuntimeError NotImplementedError""".split()
METHODS = """append clear copy count endswith extend find get index insert isalnum isalpha isdigit islower isspace isupper
    items join keys ljust lower lstrip partition pop remove replace reverse rfind rjust rpartition rsplit rstrip
    setdefault split splitlines startswith strip update upper values zfill add discard""".split()
WORDS = """type typing typing_extensions enum Enum IntEnum StrEnum Flag IntFlag Generic Protocol ABC ABCMeta namedtuple
    NamedTuple TypedDict TYPE_CHECKING abstractmethod mro elements open input law version_info with_traceback add_note
    register _wall _WallAttr _cold _tuplegetter _outside _record _written_out _member_names""".split()
STARTS = ("_wall", "_pe_", "_dcw_", "_enum_", "_cm_", "_twin_re_", "_lay_", "_law_", "_stub_", "_sre", "_WallAttr")
SPECIAL = """__init__ __eq__ __len__ __iter__ __call__ __contains__ __add__ __and__""".split()
OPERATORS = """__contains__ __add__ __and__ __eq__ __len__""".split()
STATEMENTS = (ast.Assign, ast.AugAssign, ast.If, ast.While, ast.For, ast.Return, ast.Break, ast.Continue, ast.Pass,
              ast.Raise, ast.Expr, ast.Try, ast.FunctionDef, ast.ClassDef, ast.ImportFrom, ast.Delete)


def package_files():
    """The texts of the package, by their names without the ending."""
    found = {}
    for name in sorted(os.listdir(PACKAGE)):
        if name != "__pycache__":
            with open(os.path.join(PACKAGE, name), encoding="utf-8", newline="") as held:
                found[name] = held.read()
    return found


FILES = package_files()
TREES = {name[:-3]: ast.parse(text) for name, text in FILES.items() if name.endswith(".py")}


def nodes(*kinds):
    """All nodes of these kinds, each with the file that it stands in."""
    return [(file, node) for file, tree in TREES.items() for node in ast.walk(tree) if isinstance(node, kinds)]


def bound_at_top(tree):
    """The names that a file's own definitions bind at module level."""
    found = []
    for node in tree.body:
        if isinstance(node, (ast.FunctionDef, ast.ClassDef)):
            found.append(node.name)
        elif isinstance(node, ast.Assign):
            found += [target.id for target in node.targets]
    return found


def imported(tree):
    """The pairs (file, name) that a file imports."""
    return [(node.module, item.name) for node in tree.body if isinstance(node, ast.ImportFrom) for item in node.names]


def locals_of(function):
    """The parameters and the local names of a function."""
    names = [arg.arg for arg in [*function.args.args, *function.args.kwonlyargs]]
    return names + [node.id for node in ast.walk(function) if isinstance(node, ast.Name)
                    and isinstance(node.ctx, ast.Store)]


def own_names():
    """All names of methods and attributes that the classes of the package give."""
    found = set()
    for _, kind in nodes(ast.ClassDef):
        found |= {part.name for part in kind.body if isinstance(part, ast.FunctionDef)}
        found |= {part.attr for part in ast.walk(kind) if isinstance(part, ast.Attribute)
                  and isinstance(part.ctx, ast.Store)}
    return found


class TestFiles(unittest.TestCase):
    def test_l1_names_of_files(self):
        for name in FILES:
            self.assertRegex(name, r"\A[a-z0-9_]+\.py\Z")

    def test_l10_sizes(self):
        for name, text in FILES.items():
            lines = text.splitlines()
            self.assertLessEqual(len(lines), 399, name)
            self.assertLessEqual(max(len(line) for line in lines), 120, name)
        for file, node in nodes(ast.FunctionDef):
            self.assertLessEqual(node.end_lineno - node.lineno + 1, 40, (file, node.name))

    def test_l14_signs_and_files(self):
        self.assertIn("__init__.py", FILES)
        self.assertLessEqual(len(FILES), 100)
        for name, text in FILES.items():
            self.assertEqual(re.sub(r"[ -~\n]", "", text), "", name)
            self.assertTrue(text.endswith("\n"), name)
            self.assertNotIn(name[:-3], ["test", "tests", "testing", "site", "conftest", *dir(builtins), *WORDS])
            self.assertIsNone(re.match(r"law_|test_", name))

    def test_the_init_file_holds_a_docstring_alone(self):
        body = TREES["__init__"].body
        self.assertEqual(len(body), 1)
        self.assertIsNotNone(ast.get_docstring(TREES["__init__"]))


class TestImports(unittest.TestCase):
    def test_l2_l16_their_form(self):
        self.assertEqual(nodes(ast.Import), [])
        for file, node in nodes(ast.ImportFrom):
            self.assertEqual(node.level, 0, file)
            self.assertRegex(node.module, r"\Afourmet\.[a-z]+\Z")
            self.assertEqual([item.asname for item in node.names], [None] * len(node.names), file)
            self.assertIn(node, TREES[file].body)

    def test_l16_they_name_the_file_that_defines_the_name(self):
        for file, tree in TREES.items():
            for module, name in imported(tree):
                self.assertIn(name, bound_at_top(TREES[module.split(".")[1]]), (file, module))

    def test_l16_no_circles(self):
        seen = {}

        def depth(file):
            self.assertNotEqual(seen.get(file), "open", file)
            if file not in seen:
                seen[file] = "open"
                for module, _ in imported(TREES[file]):
                    depth(module.split(".")[1])
                seen[file] = "done"

        for file in TREES:
            depth(file)

    def test_every_import_is_used(self):
        for file, tree in TREES.items():
            read = {node.id for node in ast.walk(tree) if isinstance(node, ast.Name)}
            for module, name in imported(tree):
                self.assertIn(name, read, (file, module))


class TestNames(unittest.TestCase):
    def test_l12_plain_names(self):
        names = [node.id for _, node in nodes(ast.Name)] + [node.arg for _, node in nodes(ast.arg)]
        names += [node.attr for _, node in nodes(ast.Attribute)] + [node.name for _, node in nodes(ast.FunctionDef)]
        for name in names:
            self.assertTrue(name in SPECIAL or re.match(r"\A_?[A-Za-z][A-Za-z0-9_]*\Z|\A_\Z", name), name)
            self.assertFalse(name.startswith(STARTS), name)
            self.assertNotIn(name, WORDS)
        for _, node in nodes(ast.ClassDef):
            self.assertRegex(node.name, r"\A[A-Z][A-Za-z]*\Z")

    def test_l12_the_lone_underscore_is_not_read(self):
        for file, node in nodes(ast.Name):
            self.assertFalse(node.id == "_" and isinstance(node.ctx, ast.Load), file)

    def test_l15_one_binding(self):
        for file, tree in TREES.items():
            bound = bound_at_top(tree) + [name for _, name in imported(tree)]
            self.assertEqual(sorted(bound), sorted(set(bound)), file)

    def test_l15_no_name_is_given_two_meanings(self):
        for file, tree in TREES.items():
            taken = [name for _, name in imported(tree)] + bound_at_top(tree)
            for node in ast.walk(tree):
                if isinstance(node, ast.FunctionDef):
                    for name in locals_of(node):
                        self.assertNotIn(name, taken, (file, node.name))
                        self.assertNotIn(name, dir(builtins), (file, node.name))
            for name in bound_at_top(tree):
                self.assertNotIn(name, dir(builtins), file)

    def test_l17_words(self):
        for name, text in FILES.items():
            for word in WORDS:
                self.assertIsNone(re.search(r"\b" + word + r"\b", re.sub(r'""".*?"""|#.*', "", text, flags=re.S)), name)

    def test_l18_methods_are_no_attributes(self):
        for file, kind in nodes(ast.ClassDef):
            methods = [part.name for part in kind.body if isinstance(part, ast.FunctionDef)]
            stored = [part.attr for part in ast.walk(kind) if isinstance(part, ast.Attribute)
                      and isinstance(part.ctx, ast.Store)]
            self.assertEqual(sorted(methods), sorted(set(methods)), file)
            self.assertEqual(set(methods) & set(stored), set(), file)


class TestStatements(unittest.TestCase):
    def test_l3_module_level(self):
        for file, tree in TREES.items():
            above = []
            for at, node in enumerate(tree.body):
                if isinstance(node, ast.Expr):
                    self.assertEqual(at, 0, file)
                    self.assertIsInstance(node.value, ast.Constant)
                elif isinstance(node, ast.Assign):
                    self.assertEqual([target.__class__ for target in node.targets], [ast.Name], file)
                    self.check_plain(file, node.value, above)
                else:
                    self.assertIsInstance(node, (ast.ImportFrom, ast.FunctionDef, ast.ClassDef), file)
                if isinstance(node, ast.FunctionDef):
                    above.append(node.name)

    def check_plain(self, file, value, above):
        """A plain value, or a dict of these and of functions defined above it."""
        if not isinstance(value, ast.Dict):
            ast.literal_eval(value)
            return
        for part in [*value.keys, *value.values]:
            if isinstance(part, ast.Name):
                self.assertIn(part.id, above, file)
            else:
                self.assertIsInstance(part, ast.Constant, file)

    def test_l3_l15_dicts_at_module_level_are_only_read(self):
        for file, tree in TREES.items():
            dicts = [node.targets[0].id for node in tree.body if isinstance(node, ast.Assign)
                     and isinstance(node.value, ast.Dict)]
            fine = []
            for node in ast.walk(tree):
                if isinstance(node, ast.Subscript) and isinstance(node.ctx, ast.Load):
                    fine.append(id(node.value))
                elif isinstance(node, ast.Compare) and isinstance(node.ops[0], (ast.In, ast.NotIn)):
                    fine.append(id(node.comparators[0]))
                elif isinstance(node, ast.Call) and isinstance(node.func, ast.Attribute) and node.func.attr == "get":
                    fine.append(id(node.func.value))
                if isinstance(node, ast.Call):
                    self.assertIsInstance(node.func, (ast.Name, ast.Attribute), file)
            for node in ast.walk(tree):
                if isinstance(node, ast.Name) and node.id in dicts and isinstance(node.ctx, ast.Load):
                    self.assertIn(id(node), fine, (file, node.id))

    def test_l4_l5_decorators_and_methods(self):
        for file, node in nodes(ast.FunctionDef):
            for decorator in node.decorator_list:
                self.assertIn(decorator.id, ("property", "staticmethod", "classmethod"), (file, node.name))
            for value in node.args.defaults + [value for value in node.args.kw_defaults if value is not None]:
                if isinstance(value, ast.Name):
                    self.assertIn(("fourmet.names", value.id), imported(TREES[file]))
                else:
                    self.assertNotIsInstance(ast.literal_eval(value), (list, dict, set))

    def test_l6_statements(self):
        for file, node in nodes(ast.stmt):
            self.assertIsInstance(node, STATEMENTS, file)

    def test_l7_l20_expressions(self):
        for file, node in nodes(ast.GeneratorExp, ast.Lambda, ast.Yield, ast.YieldFrom, ast.Await, ast.NamedExpr, ast.Div,
                                ast.Mod, ast.JoinedStr, ast.Starred):
            self.fail((file, node))
        for file, node in nodes(ast.Constant):
            self.assertNotIsInstance(node.value, (float, complex, bytes), file)
        for file, node in nodes(ast.Compare):
            for sign, value in zip(node.ops, node.comparators):
                if isinstance(sign, (ast.Is, ast.IsNot)):
                    self.assertIsInstance(value, ast.Constant, file)

    def test_l8_builtins(self):
        for file, node in nodes(ast.Name):
            if node.id in dir(builtins):
                self.assertIn(node.id, BUILTINS, (file, node.lineno))

    def test_l19_errors(self):
        own = bound_at_top(TREES["errors"])
        for file, node in nodes(ast.Raise):
            self.assertIsInstance(node.exc, ast.Call, file)
            self.assertIn(node.exc.func.id, own, file)
        for file, node in nodes(ast.ExceptHandler):
            caught = node.type.elts if isinstance(node.type, ast.Tuple) else [node.type]
            for name in caught:
                self.assertIn(name.id, own, file)

    def test_l25_methods_of_builtin_values(self):
        own = own_names()
        for file, node in nodes(ast.Call):
            if isinstance(node.func, ast.Attribute):
                self.assertIn(node.func.attr, own | set(METHODS), (file, node.lineno))

    def test_l18_attributes_that_are_read_are_the_packages_own(self):
        called = [id(node.func) for _, node in nodes(ast.Call)]
        for file, node in nodes(ast.Attribute):
            if id(node) not in called:
                self.assertIn(node.attr, own_names(), (file, node.lineno))

    def test_l27_strings(self):
        for file, node in nodes(ast.Constant):
            if isinstance(node.value, str) and node.value != ast.get_docstring(TREES[file]):
                self.assertNotIn(chr(37), node.value, file)
        for name, text in FILES.items():
            self.assertIsNone(re.search(r"\\[^nt\\'\"]", text), name)


class TestSets(unittest.TestCase):
    """L24: a set stands only where its order cannot show."""

    def test_where_sets_stand(self):
        for file, tree in TREES.items():
            for function in [node for node in ast.walk(tree) if isinstance(node, ast.FunctionDef)]:
                self.check(file, function)

    def check(self, file, function):
        stored = []
        allowed = []
        for node in ast.walk(function):
            if isinstance(node, ast.Call) and isinstance(node.func, ast.Name) and node.func.id in ("sorted", "len"):
                allowed += self.joined_sets(node.args[0])
            elif isinstance(node, ast.Compare) and isinstance(node.ops[0], (ast.In, ast.NotIn, ast.Eq, ast.NotEq)):
                allowed += self.joined_sets(node.comparators[0])
                if isinstance(node.ops[0], (ast.Eq, ast.NotEq)):
                    allowed += self.joined_sets(node.left)
            elif isinstance(node, ast.Assign) and self.is_set(node.value):
                self.assertIsInstance(node.targets[0], ast.Name)
                stored.append(node.targets[0].id)
                allowed.append(id(node.value))
        for node in ast.walk(function):
            if self.is_set(node):
                self.assertIn(id(node), allowed, (file, function.name, node.lineno))
        self.assertEqual(sorted(stored), sorted(set(stored)), (file, function.name))
        for name in stored:
            self.check_stored(file, function, name)

    def check_stored(self, file, function, name):
        """A stored set is only added to, asked with in, measured and sorted."""
        fine = []
        for node in ast.walk(function):
            if isinstance(node, ast.Attribute) and node.attr in ("add", "discard"):
                fine.append(id(node.value))
            elif isinstance(node, ast.Compare):
                fine += [id(value) for value in node.comparators]
            elif isinstance(node, ast.Call) and isinstance(node.func, ast.Name) and node.func.id in ("sorted", "len"):
                fine.append(id(node.args[0]))
        for node in ast.walk(function):
            if isinstance(node, ast.Name) and node.id == name and isinstance(node.ctx, ast.Load):
                self.assertIn(id(node), fine, (file, function.name, node.lineno))

    def joined_sets(self, node):
        if isinstance(node, ast.BinOp):
            return self.joined_sets(node.left) + self.joined_sets(node.right)
        return [id(node)]

    def is_set(self, node):
        if isinstance(node, ast.Call) and isinstance(node.func, ast.Name):
            return node.func.id in ("set", "frozenset")
        return isinstance(node, (ast.Set, ast.SetComp))


class TestOperators(unittest.TestCase):
    """L5: what an operator or a property runs changes nothing."""

    def test_operators_assign_no_attributes(self):
        for file, node in nodes(ast.FunctionDef):
            marked = [decorator.id for decorator in node.decorator_list]
            if node.name in OPERATORS or "property" in marked:
                stored = [part.attr for part in ast.walk(node) if isinstance(part, ast.Attribute)
                          and isinstance(part.ctx, (ast.Store, ast.Del))]
                self.assertEqual(stored, [], (file, node.name))

    def test_attributes_are_assigned_in_init_alone_but_on_a_desk(self):
        for file, node in nodes(ast.FunctionDef):
            stored = [part for part in ast.walk(node) if isinstance(part, ast.Attribute)
                      and isinstance(part.ctx, (ast.Store, ast.Del))]
            self.assertEqual({part.value.id for part in stored} - {"self"}, set(), file)
            if stored and node.name != "__init__":
                self.assertIn((file, node.name), [("desk", "_edit"), ("desk", "undo")])


if __name__ == "__main__":
    unittest.main()

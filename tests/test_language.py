"""The rules of the language that a program can look after: each file of the package is read and checked."""

import ast
import builtins
import glob
import os
import re
import unittest

ROOT = os.path.dirname(os.path.dirname(os.path.abspath(__file__)))
PACKAGE = os.path.join(ROOT, "drawarms")
LIBRARY = {"math": {"gcd", "lcm", "isqrt", "comb", "perm", "factorial"}}
BUILTINS = set("""
    len range enumerate zip min max sum abs sorted reversed int str bool bytes list tuple dict set frozenset isinstance ord
    repr any all divmod pow getattr hasattr setattr iter next Exception ValueError TypeError KeyError IndexError LookupError
    ZeroDivisionError ArithmeticError OverflowError RuntimeError NotImplementedError AttributeError StopIteration
    NotImplemented
""".split())
METHODS = set("""
    append clear copy count endswith extend find get index insert isalnum isalpha isdigit islower isspace isupper items join
    keys ljust lower lstrip partition pop remove replace reverse rfind rjust rpartition rsplit rstrip setdefault split
    splitlines startswith strip update upper values zfill bit_length
""".split())
BARRED_WORDS = set("""
    type typing typing_extensions enum Enum IntEnum StrEnum Flag IntFlag Generic Protocol ABC ABCMeta namedtuple NamedTuple
    TypedDict TYPE_CHECKING abstractmethod
""".split())
BARRED_NAMES = set("""
    register mro elements open input law version_info with_traceback add_note attrgetter breakpoint builtins compile copyright
    credits delattr dir eval exec exit gc globals help id importlib license locals methodcaller os quit super vars sys
""".split())
BUILT_IN = {name for name in dir(builtins) if name != "_"}
STATEMENTS = (
    ast.Assign, ast.AugAssign, ast.AnnAssign, ast.If, ast.While, ast.For, ast.Return, ast.Break, ast.Continue, ast.Pass,
    ast.Raise, ast.Assert, ast.Delete, ast.Nonlocal, ast.Match, ast.With, ast.Try, ast.Expr, ast.FunctionDef, ast.ClassDef,
    ast.ImportFrom,
)
DUNDERS = {"__init__", "__eq__", "__repr__", "__str__", "__len__", "__enter__", "__exit__", "__call__", "__iter__",
           "__contains__", "__bool__"}
AT_ONCE = {"zip", "enumerate", "reversed", "range"}
TAKERS = {"list", "tuple", "dict", "sorted", "sum", "any", "all", "enumerate", "zip", "min", "max"}


class Source:
    def __init__(self, path):
        self.name = os.path.basename(path)
        with open(path, encoding="utf-8", newline="") as held:
            self.text = held.read()
        self.tree = ast.parse(self.text)
        self.nodes = list(ast.walk(self.tree))
        self.parents = {child: node for node in self.nodes for child in ast.iter_child_nodes(node)}

    def of(self, *kinds):
        return [node for node in self.nodes if isinstance(node, kinds)]

    def imported(self):
        return [name.name for node in self.of(ast.ImportFrom) for name in node.names]

    def bound_in_functions(self):
        names = [node.arg for node in self.of(ast.arg)]
        for node in self.of(ast.Name):
            if isinstance(node.ctx, ast.Store) and self.function_of(node):
                names.append(node.id)
        return names

    def function_of(self, node):
        while node in self.parents:
            node = self.parents[node]
            if isinstance(node, (ast.FunctionDef, ast.Lambda)):
                return node
        return None


SOURCES = [Source(path) for path in sorted(glob.glob(os.path.join(PACKAGE, "*.py")))]


class Files(unittest.TestCase):
    def test_files(self):
        names = [name for name in os.listdir(PACKAGE) if name != "__pycache__"]
        self.assertEqual([name for name in names if not re.fullmatch(r"[a-z_]+\.py", name)], [])
        self.assertLessEqual(len(names), 100)
        self.assertFalse({name[:-3] for name in names} & BUILT_IN)

    def test_characters_and_sizes(self):
        for source in SOURCES:
            self.assertRegex(source.text, r"\A[ -~\n]*\Z", source.name)
            lines = source.text.split("\n")
            self.assertLessEqual(len(lines), 400, source.name)
            self.assertLessEqual(max(len(line) for line in lines), 120, source.name)
            for node in source.of(ast.FunctionDef):
                self.assertLessEqual(node.end_lineno - node.lineno + 1, 40, node.name)

    def test_words(self):
        for source in SOURCES:
            self.assertNotRegex(source.text, "dataclass|overload|contextmanager|_wall|_WallAttr")
            docstrings = {id(node.body[0].value) for node in source.of(ast.Module, ast.FunctionDef, ast.ClassDef)
                          if node.body and isinstance(node.body[0], ast.Expr)}
            words = [node.id for node in source.of(ast.Name)] + [node.attr for node in source.of(ast.Attribute)]
            for node in source.of(ast.Constant):
                if isinstance(node.value, str) and id(node) not in docstrings:
                    words.extend(re.findall(r"\w+", node.value))
                    self.assertNotIn("%", node.value)
            self.assertFalse(BARRED_WORDS & set(words), source.name)


class Imports(unittest.TestCase):
    def test_imports_name_the_file_that_defines_the_name(self):
        defined = {}
        for source in SOURCES:
            found = [node.name for node in source.tree.body if isinstance(node, (ast.FunctionDef, ast.ClassDef))]
            for node in source.tree.body:
                if isinstance(node, ast.Assign):
                    found.extend(target.id for target in node.targets)
            defined["drawarms." + source.name[:-3]] = found
        for source in SOURCES:
            self.assertEqual(source.of(ast.Import), [])
            body = [node for node in source.tree.body if not isinstance(node, ast.Expr)]
            imports = source.of(ast.ImportFrom)
            self.assertEqual(body[:len(imports)], imports, source.name)
            for node in imports:
                self.assertEqual(node.level, 0)
                known = LIBRARY.get(node.module) or defined[node.module]
                for name in node.names:
                    self.assertIsNone(name.asname)
                    self.assertIn(name.name, known)
            self.assertEqual(len(set(source.imported())), len(source.imported()))

    def test_each_import_is_used(self):
        for source in SOURCES:
            used = {node.id for node in source.of(ast.Name)}
            self.assertEqual([name for name in source.imported() if name not in used], [], source.name)

    def test_no_circles(self):
        ways = {source.name[:-3]: {node.module[9:] for node in source.of(ast.ImportFrom) if node.module.startswith("drawarms.")}
                for source in SOURCES}
        left = dict(ways)
        while left:
            free = [name for name, way in left.items() if not way & set(left)]
            self.assertTrue(free, left)
            for name in free:
                del left[name]


class Names(unittest.TestCase):
    def test_module_level(self):
        for source in SOURCES:
            bound = source.imported()
            for node in source.tree.body:
                if isinstance(node, ast.Assign):
                    self.assertEqual(len(node.targets), 1)
                    self.assertIsInstance(node.targets[0], ast.Name)
                    bound.append(node.targets[0].id)
                    for part in ast.walk(node.value):
                        self.assertNotIsInstance(part, (ast.Call, ast.ListComp, ast.Set, ast.Lambda, ast.Attribute))
                elif isinstance(node, (ast.FunctionDef, ast.ClassDef)):
                    bound.append(node.name)
                else:
                    self.assertIsInstance(node, (ast.ImportFrom, ast.Expr))
            self.assertEqual(len(set(bound)), len(bound), source.name)

    def test_names_mean_one_thing(self):
        for source in SOURCES:
            fixed = set(source.imported()) | {node.name for node in source.of(ast.ClassDef)}
            local = set(source.bound_in_functions())
            self.assertFalse(local & fixed, source.name)
            bound = local | {node.name for node in source.tree.body if isinstance(node, (ast.FunctionDef, ast.ClassDef))}
            self.assertFalse(bound & BUILT_IN, source.name)
            self.assertFalse((bound | set(source.imported())) & BARRED_NAMES, source.name)
            for name in bound:
                self.assertRegex(name, r"\A(_|_?[A-Za-z][A-Za-z0-9_]*)\Z")

    def test_builtins(self):
        for source in SOURCES:
            used = {node.id for node in source.of(ast.Name) if isinstance(node.ctx, ast.Load)} & BUILT_IN
            own = set(source.imported())
            self.assertFalse(used - BUILTINS - own - {"property"}, source.name)
            for node in source.of(ast.Name):
                if node.id in BUILTINS and node.id[0].islower():
                    parent = source.parents[node]
                    called = isinstance(parent, ast.Call) and parent.func is node
                    asked = isinstance(parent, (ast.Call, ast.Tuple)) and node.id in ("int", "str", "bool", "tuple", "list",
                        "dict")
                    keyed = isinstance(parent, ast.keyword) and parent.arg == "key"
                    self.assertTrue(called or asked or keyed, (source.name, node.id))


class Rows(unittest.TestCase):
    def test_statements(self):
        for source in SOURCES:
            for node in source.of(ast.stmt):
                self.assertIsInstance(node, STATEMENTS, source.name)
            for node in source.of(ast.Expr):
                self.assertIsInstance(node.value, (ast.Call, ast.Constant))

    def test_expressions(self):
        for source in SOURCES:
            self.assertEqual(source.of(ast.Div, ast.Lambda, ast.GeneratorExp, ast.Yield, ast.YieldFrom, ast.Await, ast.MatMult),
                [])
            for node in source.of(ast.Constant):
                self.assertNotIsInstance(node.value, (float, complex))
            for node in source.of(ast.BinOp):
                if isinstance(node.op, ast.Pow):
                    self.assertIsInstance(node.right, ast.Constant)
            for node in source.of(ast.Compare):
                for operator, right in zip(node.ops, node.comparators):
                    if isinstance(operator, (ast.Is, ast.IsNot)):
                        is_self = isinstance(node.left, ast.Name) and node.left.id == "self"
                        self.assertTrue(is_self or isinstance(right, ast.Constant))

    def test_calls(self):
        own = {node.name for source in SOURCES for node in source.of(ast.FunctionDef)}
        for source in SOURCES:
            for node in source.of(ast.Call):
                self.assertIsInstance(node.func, (ast.Name, ast.Attribute))
                if isinstance(node.func, ast.Attribute):
                    self.assertIn(node.func.attr, METHODS | own)
                for part in node.args:
                    if isinstance(part, ast.Starred):
                        self.assertIsInstance(part.value, (ast.Name, ast.Tuple, ast.List))

    def test_what_is_iterated_at_once(self):
        for source in SOURCES:
            for node in source.of(ast.Call):
                name = node.func.id if isinstance(node.func, ast.Name) else node.func.attr
                if name in AT_ONCE or name in ("items", "keys", "values"):
                    parent = source.parents[node]
                    taken = isinstance(parent, ast.Call) and parent.func.id in TAKERS and parent.args[0] is node
                    self.assertTrue(taken or isinstance(parent, (ast.For, ast.comprehension)), (source.name, node.lineno))

    def test_sets_are_sorted_or_measured_at_once(self):
        for source in SOURCES:
            for node in source.of(ast.Call, ast.Set, ast.SetComp):
                if not isinstance(node, ast.Call) or (isinstance(node.func, ast.Name) and node.func.id == "set"):
                    parent = source.parents[node]
                    taken = isinstance(parent, ast.Call) and parent.func.id in ("sorted", "len") and len(parent.args) == 1
                    self.assertTrue(taken, (source.name, node.lineno))

    def test_tables_are_read_where_they_stand(self):
        for source in SOURCES:
            tables = {node.targets[0].id for node in source.tree.body if isinstance(node, ast.Assign) and isinstance(node.value,
                (ast.Dict, ast.List))}
            for node in source.of(ast.Name):
                if node.id in tables and isinstance(node.ctx, ast.Load):
                    parent = source.parents[node]
                    is_read = isinstance(parent, ast.Subscript) and isinstance(parent.ctx, ast.Load) and parent.value is node
                    is_got = isinstance(parent, ast.Attribute) and parent.attr == "get"
                    self.assertTrue(is_read or is_got or isinstance(parent, ast.Compare), (source.name, node.lineno))
                    if is_read:
                        self.assertFalse(isinstance(source.parents[parent], ast.Call) and source.parents[parent].func is parent)

    def test_errors_are_made_where_they_are_raised(self):
        for source in SOURCES:
            for node in source.of(ast.Raise):
                self.assertIsInstance(node.exc, ast.Call)
                self.assertEqual(node.exc.keywords, [])
            self.assertEqual(source.of(ast.Try), [])


class Classes(unittest.TestCase):
    def test_decorators_and_methods(self):
        for source in SOURCES:
            for node in source.of(ast.ClassDef):
                self.assertEqual((node.decorator_list, node.keywords), ([], []))
                for part in node.body:
                    self.assertIsInstance(part, (ast.FunctionDef, ast.Expr))
            for node in source.of(ast.FunctionDef):
                in_class = isinstance(source.parents[node], ast.ClassDef)
                for decorator in node.decorator_list:
                    self.assertTrue(in_class and isinstance(decorator, ast.Name) and decorator.id == "property")
                if node.name.startswith("__"):
                    self.assertTrue(in_class and node.name in DUNDERS, node.name)
                    if node.name == "__exit__":
                        self.check_exit(node)
                    if node.name == "__init__":
                        self.assertFalse([part for part in ast.walk(node) if isinstance(part, ast.Return)])

    def check_exit(self, function):
        """Only what is set back, if there was an exception."""
        first, test = function.body
        self.assertEqual(ast.unparse(first), "shop = self._shop")
        self.assertEqual((ast.unparse(test.test), test.orelse), ("kind is not None", []))
        for row in test.body:
            self.assertRegex(ast.unparse(row), r"\Ashop\.(_[a-z]+) = self\.\1\Z")

    def test_comparing_and_measuring(self):
        rows = {"__eq__": "return self is other", "__len__": "return len(self._past)", "__bool__": "return True",
                "__contains__": "return isinstance(name, str) and name in self._arms"}
        for source in SOURCES:
            for node in source.of(ast.FunctionDef):
                if node.name in rows:
                    self.assertEqual([ast.unparse(row) for row in node.body], [rows[node.name]])
                    self.assertEqual(len(node.args.args), 2 if node.name in ("__eq__", "__contains__") else 1)


if __name__ == "__main__":
    unittest.main()

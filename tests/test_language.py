"""The rules of LANGUAGE.md that a plain reading of the package's files can tell."""

import ast
import builtins
import functools
import pathlib
import re
import unittest
import warnings

PACKAGE = pathlib.Path(__file__).resolve().parent.parent / "likewebs"

ALLOWED = set(
    "len range enumerate zip min max sum abs sorted reversed int str bool list tuple dict set isinstance ord repr any "
    "all divmod super Exception ValueError TypeError KeyError IndexError LookupError ZeroDivisionError "
    "ArithmeticError OverflowError RuntimeError NotImplementedError".split()
)
METHODS = set(
    "append clear copy count endswith extend find get index insert isalnum isalpha isdigit islower isspace isupper "
    "items join keys ljust lower lstrip partition pop remove replace reverse rfind rjust rpartition rsplit rstrip "
    "setdefault split splitlines startswith strip update upper values zfill bit_length".split()
)
DOUBLE = {"__init__", "__eq__", "__repr__", "__str__", "__len__", "__enter__", "__exit__", "__call__"}
NOWHERE = set("register mro elements open input version_info with_traceback add_note".split())
NO_NAMES = NOWHERE | set(
    "attrgetter breakpoint builtins compile copyright credits delattr dir eval exec exit gc getattr globals hasattr "
    "help id importlib license locals methodcaller os quit setattr type vars sys".split()
)
NO_WORDS = re.compile(
    r"\b(type|typing|typing_extensions|enum|Enum|IntEnum|StrEnum|Flag|IntFlag|Generic|Protocol|ABC|ABCMeta|namedtuple|"
    r"NamedTuple|TypedDict|TYPE_CHECKING|abstractmethod)\b|dataclass|overload|contextmanager"
)
STATEMENTS = (
    ast.FunctionDef, ast.ClassDef, ast.ImportFrom, ast.Assign, ast.AugAssign, ast.If, ast.While, ast.For, ast.Return,
    ast.Break, ast.Continue, ast.Pass, ast.Raise, ast.Assert, ast.Delete, ast.Try, ast.Expr,
)
AT_ONCE = {"list", "tuple", "dict", "sorted", "sum", "any", "all", "enumerate", "zip", "min", "max"}


def files():
    return sorted(PACKAGE.glob("*.py"))


@functools.cache
def trees():
    return {path.stem: ast.parse(path.read_text(encoding="utf-8")) for path in files()}


def imports(tree):
    return [node for node in ast.walk(tree) if isinstance(node, (ast.Import, ast.ImportFrom))]


def imported(tree):
    return {alias.asname or alias.name for node in imports(tree) for alias in node.names}


def defined(tree):
    names = {node.name for node in tree.body if isinstance(node, (ast.FunctionDef, ast.ClassDef))}
    return names | {target.id for node in tree.body if isinstance(node, ast.Assign) for target in node.targets}


def local_names(tree):
    """The names of parameters, of caught errors, and of all that functions assign to."""
    told = {node.arg for node in ast.walk(tree) if isinstance(node, ast.arg)}
    told |= {node.name for node in ast.walk(tree) if isinstance(node, ast.ExceptHandler) and node.name}
    for function in [node for node in ast.walk(tree) if isinstance(node, (ast.FunctionDef, ast.Lambda))]:
        for node in ast.walk(function):
            if isinstance(node, ast.Name) and not isinstance(node.ctx, ast.Load):
                told.add(node.id)
    return told


def parents(tree):
    return {child: node for node in ast.walk(tree) for child in ast.iter_child_nodes(node)}


def plain(node, bound):
    """Whether a value at module level is a number, a text, or a tuple or dict of such and of functions above it."""
    if isinstance(node, ast.Constant):
        return isinstance(node.value, (int, str))
    if isinstance(node, ast.BinOp):
        return plain(node.left, ()) and plain(node.right, ())
    if isinstance(node, ast.Tuple):
        return all(plain(part, bound) for part in node.elts)
    if isinstance(node, ast.Dict):
        parts = [(key, part) for key, part in zip(node.keys, node.values) if not isinstance(part, ast.Dict)]
        return len(parts) == len(node.keys) and all(plain(key, ()) and plain(part, bound) for key, part in parts)
    return isinstance(node, ast.Name) and node.id in bound


def tables(tree):
    """The names of the dicts at module level."""
    return {
        node.targets[0].id for node in tree.body if isinstance(node, ast.Assign) and isinstance(node.value, ast.Dict)
    }


@functools.cache
def own_classes():
    return {node.name for tree in trees().values() for node in tree.body if isinstance(node, ast.ClassDef)}


@functools.cache
def own_methods():
    """The names of all methods of the package but the double-underscore ones."""
    told = set()
    for tree in trees().values():
        for kind in [node for node in tree.body if isinstance(node, ast.ClassDef)]:
            told |= {node.name for node in kind.body if isinstance(node, ast.FunctionDef)}
    return {name for name in told if not name.startswith("__")}


def functions(tree):
    """All functions, methods and lambdas."""
    return [node for node in ast.walk(tree) if isinstance(node, (ast.FunctionDef, ast.Lambda))]


def simple(node):
    """Whether a value may stand in a finally: a name, an attribute, a plain literal, or a list or tuple of these."""
    if isinstance(node, (ast.List, ast.Tuple)):
        return all(simple(part) for part in node.elts)
    if isinstance(node, ast.Attribute):
        return simple(node.value)
    return isinstance(node, (ast.Name, ast.Constant))


def called(node):
    """The name of the builtin or function that a node calls, or None."""
    return node.func.id if isinstance(node, ast.Call) and isinstance(node.func, ast.Name) else None


class Language(unittest.TestCase):
    def test_files(self):
        for path in PACKAGE.iterdir():
            if path.name != "__pycache__":
                self.assertRegex(path.name, r"^[a-z_][a-z0-9_]*\.py$")
        self.assertIn(PACKAGE / "__init__.py", files())
        for path in files():
            text = path.read_bytes().decode("ascii")
            self.assertRegex(text, r"^[ -~\n]*\Z")
            self.assertIsNone(NO_WORDS.search(text), path)
            lines = text.split("\n")
            self.assertLessEqual(len(lines), 400)
            self.assertLessEqual(max(map(len, lines)), 120)
            with warnings.catch_warnings():
                warnings.simplefilter("error")
                compile(text, str(path), "exec")

    def test_imports(self):
        graph = {}
        for name, tree in trees().items():
            graph[name] = []
            for node in imports(tree):
                self.assertIsInstance(node, ast.ImportFrom)
                self.assertEqual(node.level, 0)
                package, _, home = node.module.partition(".")
                self.assertEqual(package, "likewebs")
                for alias in node.names:
                    self.assertIn(alias.name, defined(trees()[home]))
                graph[name].append(home)
        while graph:
            free = [name for name in graph if not any(home in graph for home in graph[name])]
            self.assertTrue(free, "files import from each other")
            for name in free:
                del graph[name]

    def test_module_level(self):
        for name, tree in trees().items():
            bound = [alias.asname or alias.name for node in imports(tree) for alias in node.names]
            for node in tree.body[1:]:
                self.assertIsInstance(node, (ast.ImportFrom, ast.Assign, ast.FunctionDef, ast.ClassDef))
                if isinstance(node, ast.Assign):
                    self.assertTrue(plain(node.value, bound), ast.unparse(node))
                    bound.append(node.targets[0].id)
                elif not isinstance(node, ast.ImportFrom):
                    bound.append(node.name)
            self.assertIsNotNone(ast.get_docstring(tree))
            self.assertEqual(len(bound), len(set(bound)), name)

    def test_tables_are_only_read(self):
        for tree in trees().values():
            above = parents(tree)
            for node in ast.walk(tree):
                if isinstance(node, ast.Name) and node.id in tables(tree) and isinstance(node.ctx, ast.Load):
                    up = above[node]
                    if isinstance(up, ast.Attribute):
                        self.assertEqual(up.attr, "get")
                    elif isinstance(up, ast.Subscript):
                        self.assertTrue(up.value is node and isinstance(up.ctx, ast.Load))
                        # What stands in a table gets a name of its own ahead of a call.
                        self.assertFalse(isinstance(above[up], ast.Call) and above[up].func is up)
                    else:
                        self.assertIsInstance(up, ast.Compare)

    def test_names(self):
        for name, tree in trees().items():
            classes = {node.name for node in tree.body if isinstance(node, ast.ClassDef)}
            local = local_names(tree)
            self.assertFalse(local & (imported(tree) | classes | set(dir(builtins)) | NO_NAMES), name)
            self.assertFalse((defined(tree) | imported(tree)) & (set(dir(builtins)) | NO_NAMES), name)
            for told in local | defined(tree):
                self.assertRegex(told, r"^[A-Za-z][A-Za-z0-9_]*$")
            known = local | imported(tree) | defined(tree) | ALLOWED
            used = {node.id for node in ast.walk(tree) if isinstance(node, ast.Name)}
            self.assertFalse(used - known, name)

    def test_functions(self):
        for tree in trees().values():
            for node in ast.walk(tree):
                if isinstance(node, ast.FunctionDef):
                    self.assertLessEqual(node.end_lineno - node.lineno + 1, 40)
                    self.assertEqual(node.decorator_list, [])
                    self.assertEqual(node.args.posonlyargs, [])
                    self.assertFalse(node.name.startswith("__") and node.name not in DOUBLE)
                elif isinstance(node, ast.ClassDef):
                    self.assertEqual(node.decorator_list, [])
                    self.assertEqual(node.keywords, [])

    def test_statements_and_expressions(self):
        for tree in trees().values():
            for node in ast.walk(tree):
                if isinstance(node, ast.stmt):
                    self.assertIsInstance(node, STATEMENTS)
                self.assertNotIsInstance(node, (ast.Div, ast.Await, ast.Yield, ast.GeneratorExp, ast.NamedExpr))
                if isinstance(node, ast.Expr):
                    self.assertIsInstance(node.value, (ast.Call, ast.Constant))
                if isinstance(node, ast.Constant):
                    self.assertNotIsInstance(node.value, (float, complex))
                    self.assertFalse(isinstance(node.value, str) and ("%" in node.value or "\\" in node.value))
                if isinstance(node, ast.Pow):
                    self.assertIn("10 ** 9", ast.unparse(tree))
                if isinstance(node, ast.Compare):
                    for sign, right in zip(node.ops, node.comparators):
                        if isinstance(sign, (ast.Is, ast.IsNot)):
                            self.assertTrue(isinstance(right, ast.Constant) and right.value in (None, True, False))
                if isinstance(node, ast.Raise):
                    self.assertTrue(called(node.exc), "raise creates its error on the spot")

    def test_finally(self):
        for tree in trees().values():
            for node in [part for block in ast.walk(tree) if isinstance(block, ast.Try) for part in block.finalbody]:
                if isinstance(node, ast.Assign):
                    self.assertTrue(simple(node.value) and all(simple(target) for target in node.targets))
                else:
                    self.assertIsInstance(node, ast.Expr)
                    self.assertIsInstance(node.value.func, ast.Attribute)
                    self.assertEqual((node.value.func.attr, len(node.value.args)), ("append", 1))
                    self.assertTrue(simple(node.value.func.value) and simple(node.value.args[0]))
        self.assertFalse({"append", "clear", "sort", "keys"} & own_methods())

    def test_handlers(self):
        for tree in trees().values():
            above = parents(tree)
            for node in [node for node in ast.walk(tree) if isinstance(node, ast.ExceptHandler)]:
                self.assertIsInstance(node.type, ast.Name)
                self.assertIn(node.type.id, own_classes())
            for function in functions(tree):
                names = [node.name for node in ast.walk(function) if isinstance(node, ast.ExceptHandler) and node.name]
                self.assertEqual(len(names), len(set(names)))
                for node in [node for node in ast.walk(function) if isinstance(node, ast.Name) and node.id in names]:
                    self.assertIsInstance(above[node], ast.Attribute, "of a caught error its fields are read")
            for node in [node for node in ast.walk(tree) if isinstance(node, ast.Raise) and node.cause]:
                self.assertTrue(isinstance(node.cause, ast.Constant) and node.cause.value is None)

    def test_classes_and_methods_are_not_passed_on(self):
        for tree in trees().values():
            above = parents(tree)
            for node in ast.walk(tree):
                up = above.get(node)
                if isinstance(node, ast.Name) and node.id in own_classes():
                    right = isinstance(up, (ast.ClassDef, ast.ExceptHandler))
                    right = right or isinstance(up, ast.Call) and up.func is node
                    self.assertTrue(right or called(up) == "isinstance" and up.args[1] is node, node.id)
                if isinstance(node, ast.Attribute) and node.attr in own_methods() | METHODS:
                    field = node.attr in ("count", "index")
                    self.assertTrue(field or isinstance(up, ast.Call) and up.func is node, node.attr)
                if isinstance(node, ast.Starred) and isinstance(node.ctx, ast.Load):
                    self.assertIsInstance(node.value, ast.Name)
                if isinstance(node, ast.Lambda):
                    self.assertFalse(node.args.defaults + node.args.kwonlyargs)
                    self.assertIsNone(node.args.vararg)

    def test_keywords(self):
        for tree in trees().values():
            for node in [node for node in ast.walk(tree) if isinstance(node, ast.Call) and node.keywords]:
                words = {word.arg for word in node.keywords}
                if called(node) in ("sorted", "min", "max"):
                    self.assertLessEqual(words, {"key"})
                else:
                    self.assertNotIn(called(node), set(dir(builtins)))
                    self.assertFalse(isinstance(node.func, ast.Attribute) and node.func.attr in METHODS)

    def test_default_values(self):
        for tree in trees().values():
            for function in functions(tree):
                given = function.args.defaults + [part for part in function.args.kw_defaults if part is not None]
                for part in given:
                    empty = isinstance(part, ast.Tuple) and not part.elts
                    self.assertTrue(empty or isinstance(part, (ast.Constant, ast.Name)), ast.unparse(part))

    def test_what_a_loop_goes_over_is_left_as_it_is(self):
        for tree in trees().values():
            for loop in [node for node in ast.walk(tree) if isinstance(node, ast.For)]:
                over = {node.id for node in ast.walk(loop.iter) if isinstance(node, ast.Name)}
                for node in [node for part in loop.body for node in ast.walk(part)]:
                    if isinstance(node, ast.Call) and isinstance(node.func, ast.Attribute):
                        if node.func.attr in ("append", "pop", "insert", "remove", "clear", "extend", "update"):
                            self.assertFalse(isinstance(node.func.value, ast.Name) and node.func.value.id in over)

    def test_sets_and_what_is_iterated_at_once(self):
        for tree in trees().values():
            above = parents(tree)
            for node in ast.walk(tree):
                if called(node) == "set" or isinstance(node, (ast.SetComp, ast.Set)):
                    self.assertIn(called(above[node]), ("sorted", "len"))
                if called(node) in ("zip", "enumerate", "reversed", "range"):
                    up = above[node]
                    self.assertTrue(isinstance(up, (ast.For, ast.comprehension)) or called(up) in AT_ONCE)

    def test_methods_and_attributes(self):
        methods, fields = set(), set()
        for tree in trees().values():
            for kind in [node for node in tree.body if isinstance(node, ast.ClassDef)]:
                methods |= {node.name for node in kind.body if isinstance(node, ast.FunctionDef)}
            fields |= {
                node.attr for node in ast.walk(tree)
                if isinstance(node, ast.Attribute) and isinstance(node.ctx, ast.Store)
            }
        self.assertFalse(methods & fields)
        for value in ("", 0, [], {}, set(), b"", ()):
            self.assertFalse(fields & set(dir(value)) - {"count", "index"})
        for tree in trees().values():
            for node in ast.walk(tree):
                if isinstance(node, ast.Attribute):
                    self.assertIn(node.attr, methods | fields | METHODS)
                    self.assertNotIn(node.attr, NOWHERE)


if __name__ == "__main__":
    unittest.main()

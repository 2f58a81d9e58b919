"""The form of the package's files: what of ../shared/LANGUAGE.md a reader of their text can see."""

import ast
import re
import unittest
from pathlib import Path

PACKAGE = Path(__file__).resolve().parent.parent / "rotafair"

NODES = (
    ast.Module, ast.FunctionDef, ast.ClassDef, ast.arguments, ast.arg, ast.Return, ast.Assign, ast.AugAssign,
    ast.For, ast.While, ast.If, ast.Raise, ast.Try, ast.ExceptHandler, ast.ImportFrom, ast.alias, ast.Expr,
    ast.Pass, ast.Break, ast.Continue, ast.BoolOp, ast.BinOp, ast.UnaryOp, ast.Lambda, ast.IfExp, ast.Dict,
    ast.Set, ast.ListComp, ast.comprehension, ast.Compare, ast.Call, ast.JoinedStr, ast.FormattedValue,
    ast.Constant, ast.Attribute, ast.Subscript, ast.Name, ast.List, ast.Tuple, ast.Slice, ast.keyword,
    ast.expr_context, ast.boolop, ast.operator, ast.unaryop, ast.cmpop,
)
OWN_NAMES = """
len range enumerate zip min max sum abs sorted reversed int str bool list tuple dict set frozenset isinstance
ord repr any all divmod Exception ValueError TypeError KeyError IndexError LookupError ZeroDivisionError
ArithmeticError OverflowError RuntimeError NotImplementedError AttributeError StopIteration
""".split()
OWN_METHODS = """
append clear copy count endswith extend find get index insert isalnum isalpha isdigit islower isspace isupper
items join keys ljust lower lstrip partition pop remove replace reverse rfind rjust rpartition rsplit rstrip
setdefault split splitlines startswith strip update upper values zfill bit_length
""".split()
UNDERSCORED = ("__init__", "__eq__", "__repr__", "__str__", "__len__")
WORDS = """
type typing typing_extensions enum Enum IntEnum StrEnum Flag IntFlag Generic Protocol ABC ABCMeta namedtuple
NamedTuple TypedDict TYPE_CHECKING abstractmethod
""".split()


def sources():
    return {path: path.read_text(encoding="utf-8") for path in sorted(PACKAGE.glob("*.py"))}


def trees():
    return {path.name: ast.parse(source) for path, source in sources().items()}


def nodes(tree, kind):
    return [node for node in ast.walk(tree) if isinstance(node, kind)]


def is_docstring(node):
    return isinstance(node, ast.Expr) and isinstance(node.value, ast.Constant) and isinstance(node.value.value, str)


def is_plain(value):
    if isinstance(value, (ast.List, ast.Tuple)):
        return all(is_plain(part) for part in value.elts)
    if isinstance(value, ast.Dict):
        return all(is_plain(part) for part in value.keys + value.values)
    return isinstance(value, (ast.Constant, ast.Name))


def drawn_names(tree):
    return {alias.asname or alias.name for node in nodes(tree, ast.ImportFrom) for alias in node.names}


def files_below(name, links):
    """Every file that this one draws from, in however many steps."""
    found, waiting = set(), list(links[name])
    while waiting:
        other = waiting.pop()
        if other not in found:
            found.add(other)
            waiting += links[other]
    return found


def is_call(node, names):
    return isinstance(node, ast.Call) and isinstance(node.func, ast.Name) and node.func.id in names


def walked_parts(tree):
    """The values that are walked on the spot."""
    found = [node.iter for node in nodes(tree, (ast.For, ast.comprehension))]
    takers = ("list", "tuple", "dict", "sorted", "sum", "any", "all", "enumerate", "zip", "min", "max")
    for node in nodes(tree, ast.Call):
        if is_call(node, takers) or getattr(node.func, "attr", "") == "join":
            found += node.args
    return found


def is_changed(walked, body):
    changing = ("append", "clear", "extend", "insert", "pop", "remove", "reverse", "setdefault", "update")
    for node in [part for row in body for part in ast.walk(row)]:
        if isinstance(node, ast.Attribute) and node.attr in changing and ast.dump(node.value) == walked:
            return True
        if isinstance(node, ast.AugAssign) and ast.dump(node.target).replace("Store", "Load") == walked:
            return True
        if isinstance(node, ast.Subscript) and isinstance(node.ctx, ast.Store) and ast.dump(node.value) == walked:
            return True
    return False


class Form(unittest.TestCase):
    def test_files(self):
        for path in PACKAGE.iterdir():
            if path.name != "__pycache__":
                self.assertRegex(path.name, r"^[a-z_][a-z0-9_]*\.py$")
        self.assertTrue((PACKAGE / "__init__.py").is_file())

    def test_size_and_signs(self):
        for path, source in sources().items():
            rows = source.split("\n")
            self.assertLessEqual(len(rows), 400, path)
            self.assertLessEqual(max(len(row) for row in rows), 120, path)
            self.assertEqual(set(re.findall(r"[^ -~\n]", source)), set(), path)
            self.assertEqual(set(re.findall(r"\w+", source)) & set(WORDS), set(), path)
            self.assertIsNone(re.search("dataclass|overload|contextmanager", source), path)
        for name, tree in trees().items():
            for node in nodes(tree, ast.FunctionDef):
                self.assertLessEqual(node.end_lineno - node.lineno + 1, 40, (name, node.name))

    def test_the_parts_of_the_language(self):
        for name, tree in trees().items():
            for node in ast.walk(tree):
                where = (name, getattr(node, "lineno", 0))
                self.assertIsInstance(node, NODES, where)
                self.assertNotIsInstance(node, (ast.Div, ast.MatMult), where)
                if isinstance(node, (ast.For, ast.While)):
                    self.assertEqual(node.orelse, [], where)
                if isinstance(node, ast.Try):
                    self.assertEqual(node.finalbody, [], where)
                if isinstance(node, ast.Assign):
                    self.assertEqual(len(node.targets), 1, where)
                if isinstance(node, ast.Constant):
                    self.assertIsInstance(node.value, (int, str, type(None)), where)
                if isinstance(node, ast.Expr):
                    self.assertTrue(isinstance(node.value, ast.Call) or is_docstring(node), where)
                if isinstance(node, ast.FormattedValue):
                    self.assertIsInstance(node.value, ast.Name, where)
                    self.assertIsNone(node.format_spec, where)
                if isinstance(node, ast.ListComp):
                    self.assertEqual(len(node.generators), 1, where)
                    self.assertLessEqual(len(node.generators[0].ifs), 1, where)

    def test_the_top_of_each_file(self):
        for name, tree in trees().items():
            bound = []
            for node in tree.body:
                where = (name, node.lineno)
                if isinstance(node, ast.Assign):
                    self.assertTrue(is_plain(node.value), where)
                    bound.append(node.targets[0].id)
                elif isinstance(node, (ast.FunctionDef, ast.ClassDef)):
                    bound.append(node.name)
                elif isinstance(node, ast.ImportFrom):
                    self.assertEqual((node.level, node.module.split(".")[0]), (0, "rotafair"), where)
                    bound += [alias.asname or alias.name for alias in node.names]
                else:
                    self.assertTrue(is_docstring(node) and node == tree.body[0], where)
            self.assertEqual(len(bound), len(set(bound)), name)

    def test_classes_and_functions(self):
        for name, tree in trees().items():
            for node in nodes(tree, ast.ClassDef):
                self.assertLessEqual(len(node.bases), 1, (name, node.name))
                self.assertEqual(node.decorator_list + node.keywords, [], (name, node.name))
                for part in node.body:
                    self.assertIsInstance(part, (ast.FunctionDef, ast.Pass), (name, node.name))
            for node in nodes(tree, ast.FunctionDef):
                given = node.args
                self.assertEqual(node.decorator_list, [], (name, node.name))
                self.assertEqual((given.vararg, given.kwarg, given.kwonlyargs, given.posonlyargs), (None, None, [], []))

    def test_names(self):
        for name, tree in trees().items():
            given = {node.arg for node in nodes(tree, ast.arg)}
            stored = {node.id for node in nodes(tree, ast.Name) if isinstance(node.ctx, ast.Store)}
            defined = {node.name for node in nodes(tree, (ast.FunctionDef, ast.ClassDef))}
            drawn = {alias.name for node in nodes(tree, ast.ImportFrom) for alias in node.names}
            read = {node.id for node in nodes(tree, ast.Name)}
            self.assertEqual(read - given - stored - defined - drawn - set(OWN_NAMES), set(), name)
            python_names = set(dir(__builtins__) if not isinstance(__builtins__, dict) else __builtins__)
            self.assertEqual((given | stored) & python_names, set(), name)
            for word in given | stored | defined:
                self.assertTrue(word in UNDERSCORED or not word.startswith("_"), (name, word))

    def test_methods_and_values(self):
        methods, values, called = set(), set(), set()
        for tree in trees().values():
            for node in nodes(tree, ast.ClassDef):
                methods |= {part.name for part in node.body if isinstance(part, ast.FunctionDef)}
            for node in nodes(tree, ast.Attribute):
                if isinstance(node.ctx, ast.Store):
                    values.add(node.attr)
            called |= {node.func.attr for node in nodes(tree, ast.Call) if isinstance(node.func, ast.Attribute)}
        self.assertEqual(methods & values, set())
        self.assertEqual(called - methods - set(OWN_METHODS), set())
        free = {name for kind in (str, int, list, dict, set, bytes) for name in dir(kind)}
        self.assertEqual((methods | values) & free - set(UNDERSCORED), set())

    def test_where_names_are_drawn_from(self):
        defined, links = {}, {}
        for name, tree in trees().items():
            tops = {node.name for node in tree.body if isinstance(node, (ast.FunctionDef, ast.ClassDef))}
            tops |= {node.targets[0].id for node in tree.body if isinstance(node, ast.Assign)}
            defined[name] = tops
            links[name] = [node.module.split(".")[1] + ".py" for node in nodes(tree, ast.ImportFrom)]
        for name, tree in trees().items():
            for node in nodes(tree, ast.ImportFrom):
                for alias in node.names:
                    self.assertIn(alias.name, defined[node.module.split(".")[1] + ".py"], (name, alias.name))
            self.assertNotIn(name, files_below(name, links))

    def test_no_local_is_called_like_a_class_or_an_import(self):
        for name, tree in trees().items():
            taken = drawn_names(tree) | {node.name for node in nodes(tree, ast.ClassDef)}
            for node in nodes(tree, (ast.FunctionDef, ast.Lambda)):
                given = {part.arg for part in nodes(node, ast.arg)}
                given |= {part.id for part in nodes(node, ast.Name) if isinstance(part.ctx, ast.Store)}
                self.assertEqual(given & taken, set(), (name, node.lineno))

    def test_each_import_is_used(self):
        for name, tree in trees().items():
            read = {node.id for node in nodes(tree, ast.Name)}
            self.assertEqual(drawn_names(tree) - read, set(), name)

    def test_sets_and_is(self):
        for name, tree in trees().items():
            held = []
            for node in nodes(tree, ast.Call):
                if is_call(node, ("len", "sorted")):
                    held += [id(part) for part in node.args]
            for node in nodes(tree, ast.Call):
                if is_call(node, ("set", "frozenset")):
                    self.assertIn(id(node), held, (name, node.lineno))
            self.assertEqual(nodes(tree, ast.Set), [], name)
            for node in nodes(tree, ast.Compare):
                for operator, value in zip(node.ops, node.comparators):
                    if isinstance(operator, (ast.Is, ast.IsNot)):
                        self.assertIn(ast.unparse(value), ("None", "True", "False"), (name, node.lineno))

    def test_walked_at_once(self):
        for name, tree in trees().items():
            walked = [id(part) for part in walked_parts(tree)]
            for node in nodes(tree, ast.Call):
                if is_call(node, ("zip", "enumerate", "reversed", "range")):
                    self.assertIn(id(node), walked, (name, node.lineno))
                if getattr(node.func, "attr", "") in ("items", "keys", "values"):
                    self.assertIn(id(node), walked, (name, node.lineno))
            for node in nodes(tree, ast.For):
                parts = node.iter.args if isinstance(node.iter, ast.Call) else [node.iter]
                for part in parts:
                    self.assertFalse(is_changed(ast.dump(part), node.body), (name, node.lineno))

    def test_errors(self):
        own = {node.name for node in trees()["errors.py"].body if isinstance(node, ast.ClassDef)}
        for name, tree in trees().items():
            for node in nodes(tree, ast.ExceptHandler):
                self.assertIn(getattr(node.type, "id", None), own, (name, node.lineno))
            for node in nodes(tree, ast.Raise):
                self.assertTrue(is_call(node.exc, own), (name, node.lineno))

    def test_numbers_and_texts(self):
        for name, tree in trees().items():
            for node in nodes(tree, ast.Constant):
                if isinstance(node.value, str):
                    self.assertNotIn("%", node.value, (name, node.lineno))
            for node in nodes(tree, ast.BinOp):
                if isinstance(node.op, ast.Pow):
                    self.assertIsInstance(node.right, ast.Constant, (name, node.lineno))


if __name__ == "__main__":
    unittest.main()

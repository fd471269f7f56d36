"""The package's own files keep to the part of Python that LANGUAGE.md tells, as far as a rule can be seen here."""

import ast
import builtins
import pathlib
import re
import unittest

TOP = pathlib.Path(__file__).resolve().parent.parent
PACKAGE = TOP / "fieldgate"

OWN_NAMES = set("""len range enumerate zip min max sum abs sorted reversed int str bool list tuple dict set frozenset
    isinstance ord repr any all divmod Exception ValueError TypeError KeyError IndexError LookupError
    ZeroDivisionError ArithmeticError OverflowError RuntimeError NotImplementedError AttributeError
    StopIteration""".split())
METHODS = set("""append clear copy count endswith extend find get index insert isalnum isalpha isdigit islower isspace
    isupper items join keys ljust lower lstrip partition pop remove replace reverse rfind rjust rpartition rsplit
    rstrip setdefault split splitlines startswith strip update upper values zfill bit_length""".split())
DOUBLE = {"__init__", "__eq__", "__repr__", "__str__", "__len__"}
WORDS = """type typing typing_extensions enum Enum IntEnum StrEnum Flag IntFlag Generic Protocol ABC ABCMeta namedtuple
    NamedTuple TypedDict TYPE_CHECKING abstractmethod""".split()
UNUSED = set("""register mro elements open input version_info with_traceback add_note attrgetter breakpoint builtins
    compile copyright credits delattr dir eval exec exit gc getattr globals hasattr help id importlib license locals
    methodcaller os quit setattr super type vars sys""".split())
STATEMENTS = (ast.Assign, ast.AugAssign, ast.If, ast.While, ast.For, ast.Return, ast.Break, ast.Continue, ast.Pass,
              ast.Raise, ast.Try, ast.Expr, ast.FunctionDef, ast.ClassDef, ast.ImportFrom)
EXPRESSIONS = (ast.Constant, ast.List, ast.Tuple, ast.Dict, ast.Set, ast.BinOp, ast.UnaryOp, ast.BoolOp, ast.Compare,
               ast.IfExp, ast.Call, ast.Attribute, ast.Subscript, ast.Slice, ast.ListComp, ast.JoinedStr,
               ast.FormattedValue, ast.Name, ast.Lambda)
PLAIN = (ast.Constant, ast.List, ast.Tuple, ast.Dict, ast.Name, ast.Load, ast.UnaryOp, ast.USub)


def files():
    return sorted(PACKAGE.rglob("*.py"))


def bound_at_top(tree):
    names = []
    for node in tree.body:
        if isinstance(node, (ast.FunctionDef, ast.ClassDef)):
            names.append(node.name)
        if isinstance(node, ast.Assign):
            names.append(node.targets[0].id)
        if isinstance(node, ast.ImportFrom):
            names += [alias.name for alias in node.names]
    return names


def bound_within(node):
    """The parameters and locals of a def and of the defs and lambdas within it."""
    names = set()
    for within in ast.walk(node):
        if isinstance(within, ast.arg):
            names.add(within.arg)
        if isinstance(within, ast.Name) and isinstance(within.ctx, ast.Store):
            names.add(within.id)
        if isinstance(within, ast.ExceptHandler) and within.name:
            names.add(within.name)
    return names


class Language(unittest.TestCase):
    def setUp(self):
        self.trees = {path: ast.parse(path.read_text(encoding="utf-8")) for path in files()}
        self.assertIn(PACKAGE / "reading.py", self.trees)

    def each(self, *kinds):
        for path, tree in self.trees.items():
            for node in ast.walk(tree):
                if isinstance(node, kinds):
                    yield f"{path.name}:{getattr(node, 'lineno', 0)}", node

    def test_files(self):
        for path in PACKAGE.rglob("*"):
            if "__pycache__" not in path.parts:
                self.assertRegex(path.name, r"^[a-z][a-z0-9_]*\.py$|^__init__\.py$|^__main__\.py$")
                self.assertNotIn(path.stem, dir(builtins))
        self.assertEqual(list(PACKAGE.rglob("test*")), [])

    def test_size_and_signs(self):
        for path in files():
            text = path.read_text(encoding="utf-8")
            self.assertRegex(text, r"\A[ -~\n]*\Z", path.name)
            lines = text.split("\n")
            self.assertLessEqual(len(lines), 400, path.name)
            self.assertLessEqual(max(len(line) for line in lines), 120, path.name)
        for where, node in self.each(ast.FunctionDef):
            self.assertLessEqual(node.end_lineno - node.lineno + 1, 40, where)

    def test_words_that_stand_nowhere(self):
        for path in files():
            text = path.read_text(encoding="utf-8")
            for word in WORDS:
                self.assertIsNone(re.search(rf"\b{word}\b", text), (path.name, word))
            for word in ["dataclass", "overload", "contextmanager"]:
                self.assertNotIn(word, text, path.name)

    def test_tops(self):
        for path, tree in self.trees.items():
            names = bound_at_top(tree)
            self.assertEqual(len(names), len(set(names)), path.name)
            for place, node in enumerate(tree.body):
                where = f"{path.name}:{node.lineno}"
                if isinstance(node, ast.Expr):
                    self.assertTrue(place == 0 and isinstance(node.value.value, str), where)
                    continue
                self.assertIsInstance(node, (ast.ImportFrom, ast.FunctionDef, ast.ClassDef, ast.Assign), where)
                if isinstance(node, ast.Assign):
                    self.assertIsInstance(node.targets[0], ast.Name, where)
                    for within in ast.walk(node.value):
                        self.assertIsInstance(within, PLAIN, where)

    def test_imports(self):
        drawn = {}
        for path, tree in self.trees.items():
            drawn[path.stem] = []
            for node in tree.body:
                if isinstance(node, ast.ImportFrom):
                    self.assertEqual(node.level, 0)
                    self.assertRegex(node.module, r"^fieldgate\.[a-z]+$")
                    source = node.module.split(".")[1]
                    drawn[path.stem].append(source)
                    defined = [top.name if hasattr(top, "name") else top.targets[0].id
                               for top in self.trees[PACKAGE / (source + ".py")].body
                               if isinstance(top, (ast.FunctionDef, ast.ClassDef, ast.Assign))]
                    for alias in node.names:
                        self.assertIn(alias.name, defined, path.name)
                        self.assertIsNone(alias.asname)
        for start in drawn:
            reached = []
            todo = list(drawn[start])
            while todo:
                source = todo.pop()
                if source not in reached:
                    reached.append(source)
                    todo += drawn[source]
            self.assertNotIn(start, reached)

    def test_statements(self):
        for where, node in self.each(ast.stmt):
            self.assertIsInstance(node, STATEMENTS, where)
            if isinstance(node, ast.Assign):
                self.assertEqual(len(node.targets), 1, where)
                self.assertNotIsInstance(node.targets[0], (ast.Tuple, ast.List), where)
            if isinstance(node, (ast.For, ast.While)):
                self.assertEqual(node.orelse, [], where)
            if isinstance(node, ast.Raise) and node.exc is not None:
                self.assertIsInstance(node.exc, ast.Call, where)
            if isinstance(node, ast.Expr) and not isinstance(node.value, ast.Call):
                self.assertEqual(node.lineno, 1, where)

    def test_defs_and_classes(self):
        for where, node in self.each(ast.FunctionDef, ast.ClassDef):
            self.assertEqual(node.decorator_list, [], where)
            if isinstance(node, ast.FunctionDef):
                self.assertIsNone(node.args.vararg or node.args.kwarg, where)
                self.assertEqual(node.args.kwonlyargs + node.args.posonlyargs, [], where)
            else:
                self.assertLessEqual(len(node.bases), 1, where)
                for within in node.body:
                    self.assertIsInstance(within, (ast.FunctionDef, ast.Pass), where)

    def test_expressions(self):
        for where, node in self.each(ast.expr):
            self.assertIsInstance(node, EXPRESSIONS, where)
            if isinstance(node, ast.Constant):
                self.assertIn(type(node.value), (int, str, bool, type(None)), where)
                self.assertNotIn("%", str(node.value), where)
            if isinstance(node, ast.ListComp):
                self.assertEqual(len(node.generators), 1, where)
                self.assertLessEqual(len(node.generators[0].ifs), 1, where)
            if isinstance(node, ast.FormattedValue):
                self.assertIsInstance(node.value, ast.Name, where)
                self.assertIn(node.conversion, (-1, ord("r")), where)
                self.assertIsNone(node.format_spec, where)
            if isinstance(node, ast.BinOp):
                self.assertNotIsInstance(node.op, (ast.Div, ast.MatMult), where)
            if isinstance(node, ast.Compare):
                for operator, side in zip(node.ops, node.comparators):
                    if isinstance(operator, (ast.Is, ast.IsNot)):
                        self.assertIn(getattr(side, "value", "other"), (None, True, False), where)

    def test_names(self):
        for path, tree in self.trees.items():
            top = bound_at_top(tree)
            taken = set(dir(builtins)) | {name for node in tree.body for name in bound_at_top(ast.Module([node], []))
                                          if isinstance(node, (ast.ClassDef, ast.ImportFrom))}
            for node in ast.walk(tree):
                if isinstance(node, ast.FunctionDef):
                    self.assertEqual(bound_within(node) & taken, set(), f"{path.name}:{node.lineno}")
                    if node.name not in DOUBLE:
                        self.assertRegex(node.name, r"^[A-Za-z][A-Za-z0-9_]*$")
            known = set(top) | OWN_NAMES | bound_within(tree)
            for node in ast.walk(tree):
                if isinstance(node, ast.Name):
                    where = f"{path.name}:{node.lineno}"
                    self.assertIn(node.id, known, where)
                    self.assertNotIn(node.id, UNUSED, where)
                    self.assertFalse(node.id.startswith("_"), where)

    def test_methods(self):
        own = {node.name for where, node in self.each(ast.FunctionDef)}
        for where, node in self.each(ast.Call):
            if isinstance(node.func, ast.Attribute):
                self.assertIn(node.func.attr, METHODS | own | {"__init__"}, where)
        for where, node in self.each(ast.Attribute):
            self.assertNotIn(node.attr, UNUSED | {"format", "format_map"}, where)
        methods = {within.name for where, node in self.each(ast.ClassDef) for within in node.body
                   if isinstance(within, ast.FunctionDef)}
        values = {node.attr for where, node in self.each(ast.Attribute) if isinstance(node.ctx, ast.Store)}
        self.assertEqual(methods & values, set())

    def test_names_of_methods_and_values(self):
        pythons = {name for kind in (str, int, list, tuple, dict, set, bytes) for name in dir(kind)}
        free = {"count", "index", "title", "find", "get", "join", "lower", "upper", "split", "strip", "copy", "add"}
        for where, node in self.each(ast.Attribute):
            if isinstance(node.ctx, ast.Store):
                self.assertNotIn(node.attr, (pythons - free) | {"args"}, where)
        for where, node in self.each(ast.ClassDef):
            names = [within.name for within in node.body if isinstance(within, ast.FunctionDef)]
            self.assertEqual(len(names), len(set(names)), where)
            for name in names:
                self.assertNotIn(name, pythons - METHODS - DOUBLE - {"add", "discard"}, where)

    def test_sets_are_not_kept(self):
        for where, node in self.each(ast.AST):
            for within in ast.iter_child_nodes(node):
                if isinstance(within, ast.Call) and getattr(within.func, "id", "") in ("set", "frozenset"):
                    asked = isinstance(node, ast.Call) and getattr(node.func, "id", "") in ("sorted", "len")
                    self.assertTrue(asked or isinstance(node, (ast.BinOp, ast.Compare)), where)

    def test_errors_that_are_taken(self):
        for where, node in self.each(ast.ExceptHandler):
            self.assertIsNotNone(node.type, where)
            for name in ast.walk(node.type):
                if isinstance(name, ast.Name):
                    self.assertNotIn(name.id, ("Exception", "TypeError"), where)

    def test_tops_are_only_read(self):
        changing = {"append", "clear", "extend", "insert", "pop", "remove", "reverse", "setdefault", "update"}
        for path, tree in self.trees.items():
            top = set(bound_at_top(tree))
            for node in ast.walk(tree):
                if isinstance(node, ast.Attribute) and isinstance(node.value, ast.Name) and node.value.id in top:
                    self.assertNotIn(node.attr, changing, f"{path.name}:{node.lineno}")
                if isinstance(node, ast.Subscript) and isinstance(node.ctx, ast.Store):
                    self.assertNotIn(getattr(node.value, "id", None), top, f"{path.name}:{node.lineno}")


if __name__ == "__main__":
    unittest.main()

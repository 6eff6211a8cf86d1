"""The rules of the language that can be read off the package's files."""

import ast
import builtins
import pathlib
import re
import unittest

PACKAGE = pathlib.Path(__file__).resolve().parent.parent / "restfield"

STATEMENTS = (ast.Assign, ast.AugAssign, ast.If, ast.While, ast.For, ast.Return, ast.Break, ast.Continue, ast.Pass,
              ast.Raise, ast.Try, ast.Expr, ast.FunctionDef, ast.ClassDef, ast.ImportFrom)
EXPRESSIONS = (ast.BinOp, ast.UnaryOp, ast.BoolOp, ast.Compare, ast.IfExp, ast.Call, ast.Attribute, ast.Subscript,
               ast.Slice, ast.ListComp, ast.Constant, ast.List, ast.Tuple, ast.Dict, ast.Name, ast.Lambda,
               ast.JoinedStr, ast.FormattedValue)
BUILT_IN = set("""len range enumerate zip min max sum abs sorted reversed int str bool list tuple dict set frozenset
    isinstance ord repr any all divmod Exception ValueError TypeError KeyError IndexError LookupError
    ZeroDivisionError ArithmeticError OverflowError RuntimeError NotImplementedError AttributeError
    StopIteration""".split())
METHODS = set("""append clear copy count endswith extend find get index insert isalnum isalpha isdigit islower isspace
    isupper items join keys ljust lower lstrip partition pop remove replace reverse rfind rjust rpartition rsplit
    rstrip setdefault split splitlines startswith strip update upper values zfill bit_length""".split())
UNUSED_WORDS = re.compile(r"\b(type|typing|typing_extensions|enum|Enum|IntEnum|StrEnum|Flag|IntFlag|Generic|Protocol"
                          r"|ABC|ABCMeta|namedtuple|NamedTuple|TypedDict|TYPE_CHECKING|abstractmethod)\b"
                          r"|dataclass|overload|contextmanager")
PLAIN_NAME = re.compile(r"[A-Za-z][A-Za-z0-9_]*\Z")


def package_files():
    return sorted(path for path in PACKAGE.rglob("*") if path.is_file() and path.parent.name != "__pycache__")


def nodes_of(*kinds):
    for path in package_files():
        for node in ast.walk(ast.parse(path.read_text(encoding="utf-8"))):
            if isinstance(node, kinds):
                yield path.name, node


class Language(unittest.TestCase):
    def test_only_plainly_named_python_files(self):
        self.assertIn("__init__.py", [path.name for path in package_files()])
        for path in package_files():
            self.assertRegex(path.name, r"\A([a-z][a-z0-9_]*|__init__|__main__)\.py\Z")
            if not path.stem.startswith("__"):
                self.assertFalse(hasattr(builtins, path.stem), path.name)

    def test_signs_and_sizes(self):
        for path in package_files():
            text = path.read_bytes().decode("ascii")
            self.assertEqual([sign for sign in text if sign != "\n" and not " " <= sign <= "~"], [], path.name)
            lines = text.split("\n")
            self.assertLessEqual(len(lines), 400, path.name)
            self.assertLessEqual(max(len(line) for line in lines), 120, path.name)
            self.assertIsNone(UNUSED_WORDS.search(text), path.name)

    def test_functions_are_short_and_plain(self):
        for name, node in nodes_of(ast.FunctionDef):
            self.assertLessEqual(node.end_lineno - node.lineno + 1, 40, (name, node.name))
            self.assertEqual(node.decorator_list, [], (name, node.name))
            self.assertIsNone(node.args.vararg or node.args.kwarg, (name, node.name))
            self.assertEqual(node.args.kwonlyargs + node.args.posonlyargs, [], (name, node.name))

    def test_statements_and_expressions(self):
        for name, node in nodes_of(ast.stmt):
            self.assertIsInstance(node, STATEMENTS, (name, node.lineno))
            self.assertFalse(isinstance(node, (ast.For, ast.While)) and node.orelse, (name, node.lineno))
            self.assertFalse(isinstance(node, ast.Try) and node.finalbody, (name, node.lineno))
            if isinstance(node, ast.Assign):
                self.assertEqual(len(node.targets), 1, (name, node.lineno))
                self.assertNotIsInstance(node.targets[0], (ast.Tuple, ast.List), (name, node.lineno))
        for name, node in nodes_of(ast.expr):
            self.assertIsInstance(node, EXPRESSIONS, (name, node.lineno))
            self.assertFalse(isinstance(node, ast.BinOp) and isinstance(node.op, ast.Div), (name, node.lineno))
            if isinstance(node, ast.Constant):
                self.assertIn(type(node.value), (int, str, bool, type(None)), (name, node.lineno))

    def test_imports_are_the_packages_own_names(self):
        for name, node in nodes_of(ast.ImportFrom):
            self.assertEqual(node.level, 0, (name, node.lineno))
            self.assertRegex(node.module, r"\Arestfield\.[a-z_]+\Z")
            defined = ast.parse((PACKAGE / (node.module.split(".")[1] + ".py")).read_text(encoding="utf-8")).body
            own = [each.name for each in defined if isinstance(each, (ast.FunctionDef, ast.ClassDef))]
            own += [each.targets[0].id for each in defined if isinstance(each, ast.Assign)]
            for alias in node.names:
                self.assertIsNone(alias.asname, (name, node.lineno))
                self.assertIn(alias.name, own, (name, node.lineno))

    def test_names(self):
        for name, node in nodes_of(ast.Name, ast.arg, ast.Attribute):
            word = getattr(node, "id", None) or getattr(node, "arg", None) or node.attr
            self.assertRegex(word, PLAIN_NAME, (name, node.lineno))
            if isinstance(node, ast.Name) and isinstance(node.ctx, ast.Load) and hasattr(builtins, word):
                self.assertIn(word, BUILT_IN, (name, node.lineno))
            if isinstance(node, ast.arg) or isinstance(node, ast.Name) and isinstance(node.ctx, ast.Store):
                self.assertFalse(hasattr(builtins, word), (name, word))

    def test_methods_called_are_the_listed_ones_or_the_programs_own(self):
        own = {each.name for _, node in nodes_of(ast.ClassDef) for each in node.body
               if isinstance(each, ast.FunctionDef)}
        for name, node in nodes_of(ast.Call):
            if isinstance(node.func, ast.Attribute):
                self.assertIn(node.func.attr, METHODS | own, (name, node.lineno))

    def test_the_top_of_a_file_holds_plain_values(self):
        for path in package_files():
            body = ast.parse(path.read_text(encoding="utf-8")).body
            functions = set()
            for node in body:
                if isinstance(node, ast.FunctionDef):
                    functions.add(node.name)
                elif isinstance(node, ast.Assign):
                    for each in ast.walk(node.value):
                        self.assertIsInstance(each, (ast.Constant, ast.UnaryOp, ast.USub, ast.List, ast.Tuple, ast.Dict,
                                                     ast.Name, ast.Load), (path.name, node.lineno))
                        if isinstance(each, ast.Name):
                            self.assertIn(each.id, functions, (path.name, node.lineno))
                elif isinstance(node, ast.Expr):
                    self.assertIsInstance(node.value, ast.Constant, (path.name, node.lineno))

    def test_nothing_nests_at_the_top_but_tuples(self):
        for path in package_files():
            for node in ast.parse(path.read_text(encoding="utf-8")).body:
                if isinstance(node, ast.Assign) and isinstance(node.value, (ast.List, ast.Dict)):
                    inner = [each for each in ast.walk(node.value) if isinstance(each, (ast.List, ast.Dict))]
                    self.assertEqual(inner, [node.value], (path.name, node.lineno))

    def test_each_name_is_bound_once_and_hidden_nowhere(self):
        for path in package_files():
            tree = ast.parse(path.read_text(encoding="utf-8"))
            imported = [alias.name for node in tree.body if isinstance(node, ast.ImportFrom) for alias in node.names]
            classes = [node.name for node in tree.body if isinstance(node, ast.ClassDef)]
            functions = [node.name for node in tree.body if isinstance(node, ast.FunctionDef)]
            values = [node.targets[0].id for node in tree.body if isinstance(node, ast.Assign)]
            top = imported + classes + functions + values
            self.assertEqual(len(top), len(set(top)), path.name)
            inner = [node for each in tree.body if isinstance(each, (ast.FunctionDef, ast.ClassDef))
                     for node in ast.walk(each)]
            bound = {node.arg for node in inner if isinstance(node, ast.arg)}
            bound |= {node.id for node in inner if isinstance(node, ast.Name) and isinstance(node.ctx, ast.Store)}
            self.assertEqual(bound & set(top), set(), path.name)

    def test_no_name_is_a_method_and_a_value(self):
        methods = {each.name for _, node in nodes_of(ast.ClassDef) for each in node.body
                   if isinstance(each, ast.FunctionDef)}
        values = {node.attr for _, node in nodes_of(ast.Attribute) if isinstance(node.ctx, ast.Store)}
        self.assertEqual(methods & values, set())
        for taken in (str, int, list, dict, set, bytes):
            self.assertEqual(values & set(dir(taken)), set())

    def test_no_two_files_draw_from_one_another(self):
        drawn = {}
        for path in package_files():
            tree = ast.parse(path.read_text(encoding="utf-8"))
            drawn[path.stem] = {node.module.split(".")[1] for node in tree.body if isinstance(node, ast.ImportFrom)}
        while drawn:
            free = [name for name, others in drawn.items() if not others & set(drawn)]
            self.assertNotEqual(free, [], drawn)
            drawn = {name: others for name, others in drawn.items() if name not in free}

    def test_what_is_walked_on_the_spot(self):
        for path in package_files():
            tree = ast.parse(path.read_text(encoding="utf-8"))
            walked = [node.iter for node in ast.walk(tree) if isinstance(node, (ast.For, ast.comprehension))]
            for node in ast.walk(tree):
                if isinstance(node, ast.Call) and isinstance(node.func, ast.Name):
                    if node.func.id in ("list", "tuple", "dict", "sorted", "sum", "any", "all", "enumerate", "zip"):
                        walked += node.args[:1]
            for node in ast.walk(tree):
                if isinstance(node, ast.Call):
                    called = getattr(node.func, "id", None) or getattr(node.func, "attr", None)
                    if called in ("zip", "enumerate", "reversed", "range", "items", "keys", "values"):
                        self.assertIn(node, walked, (path.name, node.lineno))

"""The rules of the program's form that can be seen in its files, by their numbers."""

import ast
import builtins
import pathlib
import re
import unittest

PACKAGE = pathlib.Path(__file__).resolve().parent.parent / "worthkinds"

OWN_NAMES = set("""
    len range enumerate zip min max sum abs sorted reversed int str bool list tuple dict set frozenset isinstance
    ord repr any all divmod Exception ValueError TypeError KeyError IndexError LookupError ZeroDivisionError
    ArithmeticError OverflowError RuntimeError NotImplementedError AttributeError StopIteration
""".split())

OWN_METHODS = set("""
    append clear copy count endswith extend find get index insert isalnum isalpha isdigit islower isspace isupper
    items join keys ljust lower lstrip partition pop remove replace reverse rfind rjust rpartition rsplit rstrip
    setdefault split splitlines startswith strip update upper values zfill bit_length
""".split())

BARRED_WORDS = set("""
    type typing typing_extensions enum Enum IntEnum StrEnum Flag IntFlag Generic Protocol ABC ABCMeta namedtuple
    NamedTuple TypedDict TYPE_CHECKING abstractmethod
""".split())

BARRED_FRAGMENTS = ("dataclass", "overload", "contextmanager")

BARRED_NAMES = set("""
    register mro elements open input version_info with_traceback add_note format format_map
""".split())

DUNDERS = {"__init__", "__eq__", "__repr__", "__str__", "__len__"}

KEYWORDS = {
    "sorted": {"key", "reverse"}, "min": {"key", "default"}, "max": {"key", "default"}, "sum": {"start"},
    "enumerate": {"start"}, "zip": {"strict"},
}

WALKED = {"zip", "enumerate", "reversed", "range"}
WALKERS = {"list", "tuple", "dict", "sorted", "sum", "any", "all", "enumerate", "zip", "min", "max"}

ALLOWED_NODES = tuple(getattr(ast, name) for name in """
    Module Import ImportFrom alias FunctionDef arguments arg Lambda ClassDef Assign AugAssign If While For Return Break
    Continue Pass Raise Try ExceptHandler Expr Constant List Tuple Dict Set BinOp UnaryOp BoolOp Compare IfExp Call
    keyword Attribute Subscript Slice ListComp comprehension JoinedStr FormattedValue Name expr_context operator
    unaryop boolop cmpop
""".split())


def files():
    return sorted(PACKAGE.glob("*.py"))


def trees():
    return [(path, ast.parse(path.read_text(encoding="utf-8"))) for path in files()]


def nodes(*kinds):
    return [(path, node) for path, tree in trees() for node in ast.walk(tree) if isinstance(node, kinds)]


def is_docstring(tree, node):
    return bool(tree.body) and node is tree.body[0] and isinstance(node.value, ast.Constant)


def called(node):
    return node.func.id if isinstance(node.func, ast.Name) else getattr(node.func, "attr", None)


class LanguageTest(unittest.TestCase):
    def test_files(self):
        self.assertIn(PACKAGE / "__init__.py", files())
        for path in PACKAGE.iterdir():
            if path.name != "__pycache__":
                self.assertRegex(path.name, r"^[a-z0-9_]+\.py$", "L1, L14")
                self.assertNotIn(path.stem, dir(builtins), "L14")
                self.assertNotRegex(path.stem, r"^(test.*|site|conftest|sitecustomize|usercustomize)$", "L14")

    def test_signs_and_sizes(self):
        for path in files():
            text = path.read_text(encoding="utf-8")
            lines = text.split("\n")
            self.assertRegex(text, r"\A[ -~\n]*\Z", "L14")
            self.assertLessEqual(len(lines), 400, "L10")
            self.assertLessEqual(max(len(line) for line in lines), 120, "L10")
        for path, node in nodes(ast.FunctionDef):
            self.assertLessEqual(node.end_lineno - node.lineno + 1, 40, "L10")

    def test_barred_words(self):
        for path in files():
            text = path.read_text(encoding="utf-8")
            self.assertEqual(set(re.findall(r"\w+", text)) & BARRED_WORDS, set(), "L17")
            for fragment in BARRED_FRAGMENTS:
                self.assertNotIn(fragment, text, "L17")

    def test_imports(self):
        homes = {path.stem: {node.name for node in tree.body if hasattr(node, "name")}
                 | {target.id for node in tree.body if isinstance(node, ast.Assign) for target in node.targets}
                 for path, tree in trees()}
        self.assertEqual(nodes(ast.Import), [], "L16")
        for path, node in nodes(ast.ImportFrom):
            self.assertRegex(node.module, r"^worthkinds\.[a-z]+$", "L2")
            self.assertEqual((node.level, node.col_offset), (0, 0), "L2")
            self.assertNotEqual(path.name, "__init__.py", "L16")
            for name in node.names:
                self.assertIsNone(name.asname, "L16")
                self.assertIn(name.name, homes[node.module.split(".")[1]], "L16")

    def test_no_two_files_draw_from_one_another(self):
        drawn = {path.stem: set() for path in files()}
        for path, node in nodes(ast.ImportFrom):
            drawn[path.stem].add(node.module.split(".")[1])
        while drawn:
            free = [name for name in drawn if not drawn[name] & set(drawn)]
            self.assertTrue(free, "L16")
            for name in free:
                del drawn[name]

    def test_statements_and_expressions(self):
        for path, tree in trees():
            for node in ast.walk(tree):
                where = f"{path.name}:{getattr(node, 'lineno', 0)}"
                self.assertIsInstance(node, ALLOWED_NODES, f"L6, L7 {where}")
                if isinstance(node, ast.Expr):
                    self.assertTrue(isinstance(node.value, ast.Call) or is_docstring(tree, node), f"L6 {where}")
                if isinstance(node, ast.Assign):
                    self.assertEqual(len(node.targets), 1, f"L6 {where}")
                if isinstance(node, (ast.For, ast.While)):
                    self.assertEqual(node.orelse, [], f"L6 {where}")
                if isinstance(node, ast.Try):
                    self.assertEqual(node.finalbody, [], f"L6 {where}")
                if isinstance(node, ast.ListComp):
                    self.assertEqual(len(node.generators), 1, f"L7 {where}")
                    self.assertLessEqual(len(node.generators[0].ifs), 1, f"L7 {where}")
                if isinstance(node, ast.Constant):
                    self.assertIsInstance(node.value, (int, str, type(None)), f"L7 {where}")
                    self.assertNotIn("%", str(node.value), f"L27 {where}")
                if isinstance(node, ast.BinOp):
                    self.assertNotIsInstance(node.op, (ast.Div, ast.MatMult), f"L7 {where}")
                    if isinstance(node.op, ast.Pow):
                        self.assertIsInstance(node.right, ast.Constant, f"L27 {where}")

    def test_comparing_by_is(self):
        for path, node in nodes(ast.Compare):
            for operator, right in zip(node.ops, node.comparators):
                if isinstance(operator, (ast.Is, ast.IsNot)):
                    self.assertTrue(isinstance(right, ast.Constant) and right.value in (None, True, False), "L20")

    def test_functions_and_classes(self):
        for path, node in nodes(ast.FunctionDef, ast.ClassDef):
            self.assertEqual(node.decorator_list, [], "L4, L5")
        for path, node in nodes(ast.arguments):
            self.assertEqual((node.vararg, node.kwarg, node.kwonlyargs, node.posonlyargs), (None, None, [], []), "L4")
        for path, node in nodes(ast.ClassDef):
            self.assertLessEqual(len(node.bases), 1, "L5")
            for part in node.body:
                self.assertIsInstance(part, (ast.FunctionDef, ast.Pass), "L5")

    def test_methods_and_values_of_objects(self):
        methods = set()
        for path, node in nodes(ast.ClassDef):
            names = [part.name for part in node.body if isinstance(part, ast.FunctionDef)]
            self.assertEqual(len(names), len(set(names)), f"L18 {path.name}")
            methods |= set(names)
        values = {node.attr for path, node in nodes(ast.Attribute) if isinstance(node.ctx, ast.Store)}
        taken = {name for kind in (str, int, list, dict, set, bytes) for name in dir(kind)}
        self.assertEqual(values & methods, set(), "L18")
        self.assertEqual(values & taken, set(), "L26")
        self.assertLessEqual(methods & taken, DUNDERS | OWN_METHODS | {"add", "discard"}, "L26")
        for path, node in nodes(ast.FunctionDef):
            if node.name == "__init__":
                self.assertFalse([part for part in ast.walk(node) if isinstance(part, ast.Return)], f"L28 {path.name}")

    def test_errors_of_python_are_taken_in_a_try_of_its_own(self):
        for path, node in nodes(ast.Try):
            where = f"L19 {path.name}:{node.lineno}"
            taken = {part.id for handler in node.handlers for part in ast.walk(handler.type)
                     if isinstance(part, ast.Name)}
            self.assertNotIn("Exception", taken, where)
            self.assertNotIn("TypeError", taken, where)
            if taken & {"ValueError", "LookupError", "IndexError"}:
                self.assertEqual(len(node.body), 1, where)
                calls = [called(part) for part in ast.walk(node.body[0]) if isinstance(part, ast.Call)]
                self.assertLessEqual(set(calls), {"int", "str", "index", "remove"}, where)

    def test_names(self):
        own = set(dir(builtins))
        for path, node in nodes(ast.Name, ast.arg, ast.FunctionDef, ast.ClassDef):
            name = getattr(node, "id", None) or getattr(node, "arg", None) or getattr(node, "name", None)
            if name not in DUNDERS:
                self.assertRegex(name, r"^[A-Za-z][A-Za-z0-9_]*$", f"L12 {path.name}")
            self.assertNotIn(name, BARRED_NAMES, f"L17 {path.name}")
            if name in own:
                self.assertIn(name, OWN_NAMES, f"L8 {path.name}")
                self.assertTrue(isinstance(node, ast.Name) and isinstance(node.ctx, ast.Load), f"L8, L15 {path.name}")

    def test_top_of_a_file_binds_each_name_once(self):
        for path, tree in trees():
            names = [node.name for node in tree.body if hasattr(node, "name")]
            names += [target.id for node in tree.body if isinstance(node, ast.Assign) for target in node.targets]
            names += [name.name for node in tree.body if isinstance(node, ast.ImportFrom) for name in node.names]
            self.assertEqual(len(names), len(set(names)), f"L15 {path.name}")

    def test_locals_are_not_called_like_imports_or_classes(self):
        for path, tree in trees():
            taken = {name.name for node in tree.body if isinstance(node, ast.ImportFrom) for name in node.names}
            taken |= {node.name for node in tree.body if isinstance(node, ast.ClassDef)}
            for node in ast.walk(tree):
                if isinstance(node, ast.arg):
                    self.assertNotIn(node.arg, taken, f"L15 {path.name}")
                if isinstance(node, ast.Name) and isinstance(node.ctx, ast.Store):
                    self.assertNotIn(node.id, taken, f"L15 {path.name}")

    def test_methods(self):
        own = {node.name for path, node in nodes(ast.FunctionDef)}
        for path, node in nodes(ast.Call):
            if isinstance(node.func, ast.Attribute):
                self.assertIn(node.func.attr, OWN_METHODS | own, f"L25 {path.name}")

    def test_keywords(self):
        for path, node in nodes(ast.Call):
            if isinstance(node.func, ast.Name) and node.func.id in OWN_NAMES:
                given = {keyword.arg for keyword in node.keywords}
                self.assertLessEqual(given, KEYWORDS.get(node.func.id, set()), f"L22 {path.name}:{node.lineno}")

    def test_walked_at_once(self):
        for path, tree in trees():
            at_once = [node.iter for node in ast.walk(tree) if isinstance(node, (ast.For, ast.comprehension))]
            for node in ast.walk(tree):
                if isinstance(node, ast.Call) and called(node) in WALKERS - {"min", "max"}:
                    at_once.extend(node.args[:1])
                if isinstance(node, ast.Call) and called(node) in {"min", "max"} and not node.keywords:
                    at_once.extend(node.args)
                if isinstance(node, ast.Call) and called(node) == "join" and isinstance(node.func.value, ast.Constant):
                    at_once.extend(node.args)
            for node in ast.walk(tree):
                if isinstance(node, ast.Call) and called(node) in WALKED | {"items", "keys", "values"}:
                    self.assertIn(node, at_once, f"L23 {path.name}:{node.lineno}")

    def test_own_functions_are_called_not_kept(self):
        for path, tree in trees():
            fit = [node.func for node in ast.walk(tree) if isinstance(node, ast.Call)]
            for node in ast.walk(tree):
                if isinstance(node, ast.Call) and called(node) == "isinstance":
                    fit.extend(ast.walk(node.args[1]))
                if isinstance(node, ast.keyword) and node.arg == "key":
                    fit.append(node.value)
                if isinstance(node, ast.ClassDef):
                    fit.extend(node.bases)
                if isinstance(node, ast.ExceptHandler):
                    fit.append(node.type)
            for node in ast.walk(tree):
                if isinstance(node, ast.Name) and node.id in OWN_NAMES:
                    self.assertIn(node, fit, f"L22 {path.name}:{node.lineno}")

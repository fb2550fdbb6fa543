"""The form of the package's own files: the rules that a plain look at the code can hold. A name in brackets is a rule."""

import ast
import builtins
import pathlib
import re
import unittest

FOLDER = pathlib.Path(__file__).resolve().parent.parent / "eggfloors"
STATEMENTS = (ast.Assign, ast.AugAssign, ast.If, ast.While, ast.For, ast.Return, ast.Break, ast.Continue, ast.Pass,
              ast.Raise, ast.Try, ast.Expr, ast.FunctionDef, ast.ClassDef, ast.ImportFrom)
EXPRESSIONS = (ast.Constant, ast.Name, ast.List, ast.Tuple, ast.Dict, ast.BinOp, ast.UnaryOp, ast.BoolOp, ast.Compare,
               ast.IfExp, ast.Call, ast.Attribute, ast.Subscript, ast.Slice, ast.ListComp, ast.JoinedStr,
               ast.FormattedValue, ast.Lambda)
OWN_NAMES = set("""len range enumerate zip min max sum abs sorted reversed int str bool list tuple dict set frozenset
    isinstance ord repr any all divmod Exception ValueError TypeError KeyError IndexError LookupError
    ZeroDivisionError ArithmeticError OverflowError RuntimeError NotImplementedError AttributeError
    StopIteration""".split())
METHODS = set("""append clear copy count endswith extend find get index insert isalnum isalpha isdigit islower isspace
    isupper items join keys ljust lower lstrip partition pop remove replace reverse rfind rjust rpartition rsplit
    rstrip setdefault split splitlines startswith strip update upper values zfill bit_length""".split())
BARRED = re.compile(r"\b(type|typing|typing_extensions|enum|Enum|IntEnum|StrEnum|Flag|IntFlag|Generic|Protocol|ABC|"
                    r"ABCMeta|namedtuple|NamedTuple|TypedDict|TYPE_CHECKING|abstractmethod)\b|"
                    r"dataclass|overload|contextmanager")


# What Python's own values have: no value of an object bears such a name here.
TAKEN = {name for kind in (str, int, list, tuple, dict, set, frozenset, bytes) for name in dir(kind)}


def files():
    return sorted(path for path in FOLDER.rglob("*") if path.is_file() and "__pycache__" not in path.parts)


def nodes(path):
    return list(ast.walk(ast.parse(path.read_text(encoding="ascii"))))


def bound_names(found):
    """Every name that the file gives a meaning to."""
    names = [node.id for node in found if isinstance(node, ast.Name) and not isinstance(node.ctx, ast.Load)]
    names += [node.name for node in found if isinstance(node, (ast.FunctionDef, ast.ClassDef))]
    names += [node.arg for node in found if isinstance(node, ast.arg)]
    names += [alias.name for node in found if isinstance(node, ast.ImportFrom) for alias in node.names]
    return names


def drawn_from(path):
    return [node.module.split(".")[-1] for node in nodes(path) if isinstance(node, ast.ImportFrom)]


class FormTest(unittest.TestCase):
    def test_files_are_plain_modules(self):
        self.assertIn(FOLDER / "__init__.py", files())
        for path in files():
            self.assertRegex(path.name, r"\A(__init__|[a-z][a-z0-9_]*)\.py\Z", "[L1, L14]")

    def test_signs_and_sizes(self):
        for path in files():
            text = path.read_bytes().decode("ascii")
            self.assertNotRegex(text, r"[^ -~\n]", f"{path.name} [L14]")
            self.assertIsNone(BARRED.search(text), f"{path.name} [L17]")
            rows = text.splitlines()
            self.assertLessEqual(len(rows), 400, f"{path.name} [L10]")
            self.assertLessEqual(max(len(row) for row in rows), 120, f"{path.name} [L10]")
            for node in nodes(path):
                if isinstance(node, ast.FunctionDef):
                    self.assertLessEqual(node.end_lineno - node.lineno + 1, 40, f"{path.name} {node.name} [L10]")

    def test_imports_are_the_packages_own(self):
        for path in files():
            for node in nodes(path):
                if isinstance(node, ast.ImportFrom):
                    self.assertEqual(node.level, 0, f"{path.name}:{node.lineno} [L2]")
                    self.assertRegex(node.module, r"\Aeggfloors\.[a-z0-9_]+\Z", f"{path.name}:{node.lineno} [L2]")

    def test_imports_are_from_the_file_that_defines_the_name(self):
        for path in files():
            for node in nodes(path):
                if isinstance(node, ast.ImportFrom):
                    top = ast.parse((FOLDER / (node.module.split(".")[-1] + ".py")).read_text(encoding="ascii")).body
                    defined = [part.name for part in top if isinstance(part, (ast.FunctionDef, ast.ClassDef))]
                    defined += [part.targets[0].id for part in top if isinstance(part, ast.Assign)]
                    for alias in node.names:
                        self.assertIn(alias.name, defined, f"{path.name}:{node.lineno} [L16]")
                        self.assertIsNone(alias.asname, f"{path.name}:{node.lineno} [L2]")

    def test_no_two_files_draw_from_one_another(self):
        left = {path.stem: drawn_from(path) for path in files()}
        while left:
            free = [name for name in left if not any(other in left for other in left[name])]
            self.assertTrue(free, f"{sorted(left)} [L16]")
            left = {name: left[name] for name in left if name not in free}

    def test_the_top_of_a_file(self):
        for path in files():
            whole = ast.parse(path.read_text(encoding="ascii"))
            self.assertIsNotNone(ast.get_docstring(whole), f"{path.name} [L3]")
            top = whole.body
            for node in top[1:]:
                self.assertIsInstance(node, (ast.ImportFrom, ast.FunctionDef, ast.ClassDef, ast.Assign),
                                      f"{path.name}:{node.lineno} [L3]")
            names = bound_names(top) + [node.targets[0].id for node in top if isinstance(node, ast.Assign)]
            self.assertEqual(len(names), len(set(names)), f"{path.name} [L15]")

    def test_locals_are_not_called_like_classes_or_imports(self):
        for path in files():
            found = nodes(path)
            barred = {node.name for node in found if isinstance(node, ast.ClassDef)}
            barred |= {alias.name for node in found if isinstance(node, ast.ImportFrom) for alias in node.names}
            names = [node.arg for node in found if isinstance(node, ast.arg)]
            names += [node.id for node in found if isinstance(node, ast.Name) and isinstance(node.ctx, ast.Store)]
            self.assertFalse(barred.intersection(names), f"{path.name} [L15]")

    def test_classes(self):
        methods, values = set(), set()
        for path in files():
            for node in nodes(path):
                if isinstance(node, ast.ClassDef):
                    self.assertLessEqual(len(node.bases), 1, f"{path.name}:{node.lineno} [L5]")
                    for part in node.body:
                        self.assertIsInstance(part, (ast.FunctionDef, ast.Pass), f"{path.name}:{part.lineno} [L5]")
                    methods.update(part.name for part in node.body if isinstance(part, ast.FunctionDef))
                if isinstance(node, ast.Attribute) and isinstance(node.ctx, ast.Store):
                    values.add(node.attr)
        self.assertFalse(methods & values, "[L18]")
        self.assertFalse((methods - {"__init__"} | values) & TAKEN, "[L26]")

    def test_only_these_statements_and_expressions(self):
        for path in files():
            for node in nodes(path):
                if isinstance(node, ast.stmt):
                    self.assertIsInstance(node, STATEMENTS, f"{path.name}:{node.lineno} [L6]")
                if isinstance(node, ast.expr):
                    self.assertIsInstance(node, EXPRESSIONS, f"{path.name}:{node.lineno} [L7]")
                if isinstance(node, ast.Constant):
                    self.assertIn(type(node.value), (int, str, bool, type(None)), f"{path.name}:{node.lineno} [L7]")
                    self.assertNotIn("%", str(node.value), f"{path.name}:{node.lineno} [L27]")
                self.assertNotIsInstance(node, (ast.Div, ast.MatMult, ast.Pow), f"{path.name} [L7, L27]")
                self.assertFalse(getattr(node, "decorator_list", []), f"{path.name} [L4, L5]")
                self.assertFalse(getattr(node, "finalbody", []), f"{path.name} [L6]")
                if isinstance(node, (ast.For, ast.While)):
                    self.assertFalse(node.orelse, f"{path.name}:{node.lineno} [L6]")
                if isinstance(node, ast.Assign):
                    self.assertEqual(len(node.targets), 1, f"{path.name}:{node.lineno} [L6]")

    def test_is_stands_beside_none_true_and_false(self):
        for path in files():
            for node in nodes(path):
                if isinstance(node, ast.Compare) and isinstance(node.ops[0], (ast.Is, ast.IsNot)):
                    beside = node.comparators[0]
                    self.assertTrue(isinstance(beside, ast.Constant) and beside.value in (None, True, False),
                                    f"{path.name}:{node.lineno} [L20]")

    def test_names(self):
        for path in files():
            found = nodes(path)
            bound = bound_names(found)
            for name in bound:
                self.assertRegex(name, r"\A([A-Za-z][A-Za-z0-9_]*|__init__)\Z", f"{path.name} [L12]")
                self.assertNotIn(name, dir(builtins), f"{path.name} [L15]")
            for node in found:
                if isinstance(node, ast.Name) and isinstance(node.ctx, ast.Load):
                    self.assertIn(node.id, OWN_NAMES | set(bound), f"{path.name}:{node.lineno} [L8]")

    def test_methods(self):
        own = {node.name for path in files() for node in nodes(path) if isinstance(node, ast.FunctionDef)}
        for path in files():
            for node in nodes(path):
                if isinstance(node, ast.Call) and isinstance(node.func, ast.Attribute):
                    self.assertIn(node.func.attr, METHODS | own, f"{path.name}:{node.lineno} [L25]")


if __name__ == "__main__":
    unittest.main()

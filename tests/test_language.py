"""The package's files keep to the small part of Python that LANGUAGE.md tells, as far as a test can see it."""

import ast
import builtins
import pathlib
import re
import unittest

PACKAGE = pathlib.Path(__file__).resolve().parent.parent / "leafpages"

OWN_NAMES = set("""len range enumerate zip min max sum abs sorted reversed int str bool list tuple dict set frozenset
isinstance ord repr any all divmod Exception ValueError TypeError KeyError IndexError LookupError ZeroDivisionError
ArithmeticError OverflowError RuntimeError NotImplementedError AttributeError StopIteration""".split())

METHODS = set("""append clear copy count endswith extend find get index insert isalnum isalpha isdigit islower isspace
isupper items join keys ljust lower lstrip partition pop remove replace reverse rfind rjust rpartition rsplit rstrip
setdefault split splitlines startswith strip update upper values zfill bit_length""".split())

STATEMENTS = (ast.Assign, ast.AugAssign, ast.If, ast.While, ast.For, ast.Return, ast.Break, ast.Continue, ast.Pass,
              ast.Raise, ast.Try, ast.Expr, ast.FunctionDef, ast.ClassDef, ast.ImportFrom)

EXPRESSIONS = (ast.Constant, ast.Name, ast.List, ast.Tuple, ast.Dict, ast.BinOp, ast.UnaryOp, ast.BoolOp, ast.Compare,
               ast.IfExp, ast.Call, ast.Attribute, ast.Subscript, ast.Slice, ast.ListComp, ast.JoinedStr,
               ast.FormattedValue, ast.Lambda)

WORDS = re.compile(r"\b(type|typing|typing_extensions|enum|Enum|IntEnum|StrEnum|Flag|IntFlag|Generic|Protocol|ABC|"
                   r"ABCMeta|namedtuple|NamedTuple|TypedDict|TYPE_CHECKING|abstractmethod)\b|"
                   r"dataclass|overload|contextmanager")


def sources():
    return sorted(PACKAGE.glob("*.py"))


def nodes(kind):
    for path in sources():
        for node in ast.walk(ast.parse(path.read_text(encoding="utf-8"))):
            if isinstance(node, kind):
                yield path.name, node


def bound_names():
    for where, node in nodes((ast.Name, ast.arg, ast.FunctionDef, ast.ClassDef, ast.alias)):
        if isinstance(node, ast.Name) and isinstance(node.ctx, ast.Store):
            yield where, node.id
        elif isinstance(node, ast.arg):
            yield where, node.arg
        elif isinstance(node, (ast.FunctionDef, ast.ClassDef, ast.alias)):
            yield where, node.name


class Files(unittest.TestCase):
    def test_nothing_but_plain_files(self):
        self.assertTrue((PACKAGE / "__init__.py").is_file())
        for path in PACKAGE.iterdir():
            if path.name != "__pycache__":
                self.assertRegex(path.name, r"^(__init__|__main__|[a-z][a-z0-9_]*)\.py$")

    def test_signs_and_sizes(self):
        for path in sources():
            text = path.read_bytes().decode("ascii")
            self.assertRegex(text, r"\A[ -~\n]*\Z")
            rows = text.split("\n")
            self.assertLessEqual(len(rows), 401, path.name)
            self.assertLessEqual(max(len(row) for row in rows), 120, path.name)
        for where, node in nodes(ast.FunctionDef):
            self.assertLessEqual(node.end_lineno - node.lineno + 1, 40, (where, node.name))

    def test_words_that_stand_nowhere(self):
        for path in sources():
            self.assertIsNone(WORDS.search(path.read_text(encoding="utf-8")), path.name)


class Forms(unittest.TestCase):
    def test_statements(self):
        for where, node in nodes(ast.stmt):
            self.assertIsInstance(node, STATEMENTS, (where, node.lineno))
            if isinstance(node, (ast.For, ast.While)):
                self.assertEqual(node.orelse, [], (where, node.lineno))
            if isinstance(node, ast.Assign):
                self.assertEqual(len(node.targets), 1, (where, node.lineno))
            if isinstance(node, (ast.FunctionDef, ast.ClassDef)):
                self.assertEqual(node.decorator_list, [], (where, node.lineno))

    def test_expressions(self):
        for where, node in nodes(ast.expr):
            self.assertIsInstance(node, EXPRESSIONS, (where, node.lineno))
            if isinstance(node, ast.Constant):
                self.assertNotIsInstance(node.value, (float, complex, bytes), (where, node.lineno))
            if isinstance(node, ast.BinOp):
                self.assertNotIsInstance(node.op, (ast.Div, ast.MatMult), (where, node.lineno))
            if isinstance(node, ast.ListComp):
                self.assertEqual(len(node.generators), 1, (where, node.lineno))
                self.assertLessEqual(len(node.generators[0].ifs), 1, (where, node.lineno))

    def test_functions_have_plain_parameters(self):
        for where, node in nodes(ast.arguments):
            self.assertEqual((node.vararg, node.kwarg, node.kwonlyargs, node.posonlyargs), (None, None, [], []), where)

    def test_texts_in_braces_are_plain_names(self):
        for where, node in nodes(ast.FormattedValue):
            self.assertIsInstance(node.value, ast.Name, (where, node.lineno))
            self.assertIsNone(node.format_spec, (where, node.lineno))

    def test_no_stroke_of_hundreds_within_a_text(self):
        for where, node in nodes(ast.Constant):
            if isinstance(node.value, str):
                self.assertNotIn("%", node.value, (where, node.lineno))

    def test_is_stands_beside_none_true_and_false_alone(self):
        for where, node in nodes(ast.Compare):
            for op, right in zip(node.ops, node.comparators):
                if isinstance(op, (ast.Is, ast.IsNot)):
                    self.assertIsInstance(right, ast.Constant, (where, node.lineno))
                    self.assertIn(right.value, (None, True, False), (where, node.lineno))


class Names(unittest.TestCase):
    def test_imports_are_the_packages_own_by_name(self):
        for where, node in nodes((ast.Import, ast.ImportFrom)):
            self.assertIsInstance(node, ast.ImportFrom, where)
            self.assertEqual(node.level, 0, where)
            self.assertRegex(node.module, r"^leafpages\.[a-z]+$", where)
            source = ast.parse((PACKAGE / (node.module.split(".")[1] + ".py")).read_text(encoding="utf-8"))
            defined = [part.name for part in source.body if isinstance(part, (ast.FunctionDef, ast.ClassDef))]
            defined += [part.targets[0].id for part in source.body if isinstance(part, ast.Assign)]
            for name in node.names:
                self.assertIn(name.name, defined, where)
                self.assertIsNone(name.asname, where)

    def test_no_two_files_draw_from_one_another(self):
        drawn = {path.stem: set() for path in sources()}
        for where, node in nodes(ast.ImportFrom):
            drawn[where[:-3]].add(node.module.split(".")[1])
        while drawn:
            free = [name for name in drawn if not drawn[name] & set(drawn)]
            self.assertTrue(free, drawn)
            drawn = {name: drawn[name] for name in drawn if name not in free}

    def test_no_parameter_or_local_is_called_like_an_import_or_a_class_of_its_file(self):
        for path in sources():
            source = ast.parse(path.read_text(encoding="utf-8"))
            taken = {node.name for node in ast.walk(source) if isinstance(node, (ast.alias, ast.ClassDef))}
            for node in ast.walk(source):
                if isinstance(node, ast.arg):
                    self.assertNotIn(node.arg, taken, (path.name, node.lineno))
                if isinstance(node, ast.Name) and isinstance(node.ctx, ast.Store):
                    self.assertNotIn(node.id, taken, (path.name, node.lineno))

    def test_a_name_is_bound_once_at_a_files_top(self):
        for path in sources():
            names = []
            for part in ast.parse(path.read_text(encoding="utf-8")).body:
                if isinstance(part, (ast.FunctionDef, ast.ClassDef)):
                    names.append(part.name)
                elif isinstance(part, ast.ImportFrom):
                    names += [name.name for name in part.names]
                elif isinstance(part, ast.Assign):
                    names.append(part.targets[0].id)
            self.assertEqual(len(names), len(set(names)), path.name)

    def test_no_name_is_a_method_in_one_class_and_a_value_in_another(self):
        methods = set()
        for where, node in nodes(ast.ClassDef):
            names = [part.name for part in node.body if isinstance(part, ast.FunctionDef)]
            self.assertEqual(len(names), len(set(names)), (where, node.name))
            methods |= set(names)
        for where, node in nodes(ast.Attribute):
            if isinstance(node.ctx, ast.Store):
                self.assertNotIn(node.attr, methods, (where, node.lineno))
                self.assertFalse(any(hasattr(kind, node.attr) for kind in (str, int, list, dict, set, bytes, tuple)),
                                 (where, node.lineno))

    def test_what_stands_at_a_files_top_is_only_read(self):
        for path in sources():
            source = ast.parse(path.read_text(encoding="utf-8"))
            named = {part.targets[0].id: part.value for part in source.body if isinstance(part, ast.Assign)}
            for value in named.values():
                for inner in ast.walk(value):
                    self.assertFalse(isinstance(inner, (ast.List, ast.Dict)) and inner is not value, path.name)
            for node in ast.walk(source):
                if isinstance(node, (ast.Subscript, ast.Attribute)) and isinstance(node.value, ast.Name):
                    if node.value.id in named:
                        self.assertIsInstance(node.ctx, ast.Load, (path.name, node.lineno))
                        self.assertIsInstance(node, ast.Subscript, (path.name, node.lineno))

    def test_a_classs_body_holds_methods_alone(self):
        for where, node in nodes(ast.ClassDef):
            self.assertLessEqual(len(node.bases), 1, (where, node.name))
            for part in node.body:
                self.assertIsInstance(part, (ast.FunctionDef, ast.Pass), (where, node.name))

    def test_no_name_of_pythons_own_but_those_listed(self):
        for where, node in nodes(ast.Name):
            if hasattr(builtins, node.id):
                self.assertIn(node.id, OWN_NAMES, (where, node.lineno))

    def test_no_name_of_pythons_own_has_another_meaning(self):
        for where, name in bound_names():
            if name not in ("__init__", "__eq__", "__repr__", "__str__", "__len__"):
                self.assertFalse(hasattr(builtins, name), (where, name))
                self.assertRegex(name, r"^[A-Za-z][A-Za-z0-9_]*$", where)

    def test_methods_of_pythons_own_are_those_listed(self):
        own = {node.name for where, node in nodes(ast.FunctionDef)}
        for where, node in nodes(ast.Call):
            if isinstance(node.func, ast.Attribute):
                self.assertTrue(node.func.attr in METHODS or node.func.attr in own, (where, node.lineno))

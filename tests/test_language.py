"""Holds the package to those rules of the language document that a walk over the code can see."""

import ast
import builtins
import pathlib
import re
import unittest

PACKAGE = pathlib.Path(__file__).resolve().parent.parent / "pressluck"

NODES = """Module FunctionDef ClassDef arguments arg Return Assign AugAssign For While If Raise Try ExceptHandler
ImportFrom alias Expr Pass Break Continue BoolOp BinOp UnaryOp Lambda IfExp Dict Set ListComp comprehension Compare
Call JoinedStr FormattedValue Constant Attribute Subscript Name List Tuple Slice Load Store And Or Add Sub Mult Mod Pow
LShift RShift BitOr BitXor BitAnd FloorDiv Invert Not USub UAdd Eq NotEq Lt LtE Gt GtE Is IsNot In NotIn
keyword""".split()
BUILTINS = """len range enumerate zip min max sum abs sorted reversed int str bool list tuple dict set frozenset
isinstance ord repr any all divmod Exception ValueError TypeError KeyError IndexError LookupError ZeroDivisionError
ArithmeticError OverflowError RuntimeError NotImplementedError AttributeError StopIteration""".split()
METHODS = """append clear copy count endswith extend find get index insert isalnum isalpha isdigit islower isspace
isupper items join keys ljust lower lstrip partition pop remove replace reverse rfind rjust rpartition rsplit rstrip
setdefault split splitlines startswith strip update upper values zfill bit_length""".split()
DUNDERS = "__init__ __eq__ __repr__ __str__ __len__".split()
UNUSED = """register mro elements open input version_info with_traceback add_note attrgetter breakpoint builtins compile
copyright credits delattr dir eval exec exit gc getattr globals hasattr help id importlib license locals methodcaller os
quit setattr super vars sys""".split()
WALKERS = "list tuple dict sorted sum any all enumerate zip min max".split()
CHANGES = "append clear extend insert pop remove reverse setdefault update".split()
KEYWORDS = {"sorted": ("key", "reverse"), "min": ("key", "default"), "max": ("key", "default"), "sum": ("start",),
            "enumerate": ("start",), "zip": ("strict",)}
WORDS = """type typing typing_extensions enum Enum IntEnum StrEnum Flag IntFlag Generic Protocol ABC ABCMeta namedtuple
NamedTuple TypedDict TYPE_CHECKING abstractmethod""".split()


def files():
    return sorted(path for path in PACKAGE.rglob("*") if "__pycache__" not in path.parts and path.is_file())


def trees():
    return [(path.name, ast.parse(path.read_text(encoding="utf-8"))) for path in files()]


def nodes(kind):
    return [(name, node) for name, tree in trees() for node in ast.walk(tree) if isinstance(node, kind)]


def bound_names(node):
    if isinstance(node, (ast.FunctionDef, ast.ClassDef)):
        return [node.name]
    if isinstance(node, ast.arg):
        return [node.arg]
    if isinstance(node, ast.Name) and isinstance(node.ctx, ast.Store):
        return [node.id]
    return []


def top_names(tree):
    found = []
    for node in tree.body:
        if isinstance(node, (ast.FunctionDef, ast.ClassDef)):
            found.append(node.name)
        elif isinstance(node, ast.Assign):
            found.append(node.targets[0].id)
        elif isinstance(node, ast.ImportFrom):
            found.extend(alias.name for alias in node.names)
    return found


class TestFiles(unittest.TestCase):
    def test_files_are_plain(self):
        for path in files():
            self.assertRegex(path.name, r"^[a-z0-9_]+\.py$")
            self.assertEqual(path.parent, PACKAGE)
            self.assertNotIn(path.stem, dir(builtins))
        self.assertIn("__init__.py", [path.name for path in files()])

    def test_rows_signs_and_words(self):
        for path in files():
            text = path.read_text(encoding="utf-8")
            self.assertRegex(text, r"^[ -~\n]*$", path.name)
            self.assertLessEqual(len(text.splitlines()), 400, path.name)
            for row in text.splitlines():
                self.assertLessEqual(len(row), 120, path.name)
            for word in re.findall(r"[A-Za-z0-9_]+", text):
                self.assertNotIn(word, WORDS, path.name)
                self.assertIsNone(re.search("dataclass|overload|contextmanager", word), path.name)

    def test_functions_are_small(self):
        for name, node in nodes(ast.FunctionDef):
            self.assertLessEqual(node.end_lineno - node.lineno + 1, 40, f"{name}: {node.name}")


class TestForms(unittest.TestCase):
    def test_nodes(self):
        for name, node in nodes(ast.AST):
            self.assertIn(type(node).__name__, NODES, f"{name}:{getattr(node, 'lineno', 0)}")

    def test_functions_and_classes(self):
        for name, node in nodes((ast.FunctionDef, ast.ClassDef)):
            self.assertEqual(node.decorator_list, [], name)
        for name, node in nodes(ast.arguments):
            self.assertEqual((node.vararg, node.kwarg, node.kwonlyargs, node.posonlyargs), (None, None, [], []), name)
        for name, node in nodes(ast.ClassDef):
            self.assertLessEqual(len(node.bases), 1, name)
            for inner in node.body:
                self.assertIsInstance(inner, (ast.FunctionDef, ast.Pass), f"{name}: {node.name}")

    def test_statements(self):
        for name, node in nodes((ast.For, ast.While)):
            self.assertEqual(node.orelse, [], name)
        for name, node in nodes(ast.Try):
            self.assertEqual(node.finalbody, [], name)
        for name, node in nodes(ast.Assign):
            self.assertEqual(len(node.targets), 1, name)
        for name, tree in trees():
            for node in ast.walk(tree):
                if isinstance(node, ast.Expr) and node is not tree.body[0]:
                    self.assertIsInstance(node.value, ast.Call, f"{name}:{node.lineno}")

    def test_comprehensions_and_constants(self):
        for name, node in nodes(ast.ListComp):
            self.assertEqual(len(node.generators), 1, name)
            self.assertLessEqual(len(node.generators[0].ifs), 1, name)
        for name, node in nodes(ast.Constant):
            self.assertIn(type(node.value), (int, str, bool, type(None)), name)
            if isinstance(node.value, str):
                self.assertNotIn("%", node.value, name)
        for name, node in nodes(ast.BinOp):
            if isinstance(node.op, ast.Pow):
                self.assertIsInstance(node.right, ast.Constant, name)

    def test_is_stands_beside_none_and_truths(self):
        for name, node in nodes(ast.Compare):
            if any(isinstance(op, (ast.Is, ast.IsNot)) for op in node.ops):
                self.assertIn(getattr(node.comparators[0], "value", "else"), (None, True, False), name)


class TestWalks(unittest.TestCase):
    def walked(self, tree):
        """What is walked on the spot: behind an in, as the first thing of a call that walks it, in a join."""
        found = []
        for node in ast.walk(tree):
            if isinstance(node, (ast.For, ast.comprehension)):
                found.append(node.iter)
            if isinstance(node, ast.Call) and isinstance(node.func, ast.Name) and node.func.id in WALKERS:
                found.extend(node.args[:1])
            if isinstance(node, ast.Call) and isinstance(node.func, ast.Attribute) and node.func.attr == "join":
                found.extend(node.args)
        return found

    def test_what_is_made_to_be_walked_is_walked_on_the_spot(self):
        for name, tree in trees():
            walked = self.walked(tree)
            for node in ast.walk(tree):
                if isinstance(node, ast.Call):
                    called = getattr(node.func, "id", getattr(node.func, "attr", None))
                    if called in ("zip", "enumerate", "reversed", "range", "items", "keys", "values"):
                        self.assertIn(node, walked, f"{name}:{node.lineno}")

    def test_what_a_loop_walks_is_not_changed_in_it(self):
        for name, loop in nodes(ast.For):
            inner = [node.id for node in ast.walk(loop.iter) if isinstance(node, ast.Name)]
            for node in [node for row in loop.body for node in ast.walk(row)]:
                if isinstance(node, ast.Call) and isinstance(node.func, ast.Attribute) and node.func.attr in CHANGES:
                    self.assertNotIn(getattr(node.func.value, "id", None), inner, f"{name}:{node.lineno}")
                if isinstance(node, ast.Subscript) and isinstance(node.ctx, ast.Store):
                    self.assertNotIn(getattr(node.value, "id", None), inner, f"{name}:{node.lineno}")

    def test_sets_and_keywords(self):
        counted = [inner for name, node in nodes(ast.Call) if getattr(node.func, "id", None) in ("len", "sorted")
                   and not node.keywords for inner in node.args]
        places = [(inner.lineno, inner.col_offset, ast.dump(inner)) for inner in counted]
        for name, node in nodes(ast.Call):
            called = getattr(node.func, "id", None)
            self.assertNotEqual(called, "frozenset", f"{name}:{node.lineno}")
            if called == "set":
                self.assertIn((node.lineno, node.col_offset, ast.dump(node)), places, f"{name}:{node.lineno}")
            for keyword in node.keywords:
                self.assertIn(keyword.arg, KEYWORDS.get(called, ()), f"{name}:{node.lineno}")

    def test_lists_and_dicts_of_a_top_hold_none_themselves(self):
        for name, tree in trees():
            for row in [row for row in tree.body if isinstance(row, ast.Assign)]:
                inner = [node for node in ast.walk(row.value) if isinstance(node, (ast.List, ast.Dict, ast.Set))]
                self.assertLessEqual(len(inner), 1, f"{name}:{row.lineno}")


class TestNames(unittest.TestCase):
    def test_bound_names(self):
        for name, node in nodes(ast.AST):
            for bound in bound_names(node):
                self.assertTrue(bound in DUNDERS or re.match(r"^[A-Za-z][A-Za-z0-9_]*$", bound), f"{name}: {bound}")
                self.assertFalse(bound in dir(builtins) and bound not in DUNDERS, f"{name}: {bound}")

    def test_pythons_own_names(self):
        for name, node in nodes(ast.Name):
            self.assertNotIn(node.id, UNUSED, f"{name}:{node.lineno}")
            if node.id in dir(builtins):
                self.assertIn(node.id, BUILTINS, f"{name}:{node.lineno}")

    def test_called_methods(self):
        own = [node.name for name, node in nodes(ast.FunctionDef)]
        for name, node in nodes(ast.Call):
            if isinstance(node.func, ast.Attribute):
                self.assertIn(node.func.attr, METHODS + DUNDERS + own, f"{name}:{node.lineno}")

    def test_no_name_is_a_method_in_one_class_and_a_value_in_another(self):
        methods = [inner.name for name, node in nodes(ast.ClassDef) for inner in node.body
                   if isinstance(inner, ast.FunctionDef) and inner.name not in DUNDERS]
        values = [node.attr for name, node in nodes(ast.Attribute) if isinstance(node.ctx, ast.Store)]
        self.assertEqual(set(methods) & set(values), set())
        taken = {name for kind in (str, int, list, tuple, dict, set, bytes) for name in dir(kind)}
        self.assertEqual(set(methods) & taken - set(METHODS) - {"add", "discard"}, set())
        self.assertEqual(set(values) & taken, set())

    def test_errors_are_made_on_the_spot_and_taken_by_the_programs_own_names(self):
        own = [node.name for name, node in nodes(ast.ClassDef)]
        for name, node in nodes(ast.Raise):
            self.assertIsInstance(node.exc, ast.Call, f"{name}:{node.lineno}")
            self.assertIn(node.exc.func.id, own, f"{name}:{node.lineno}")
        for name, node in nodes(ast.ExceptHandler):
            for kind in node.type.elts if isinstance(node.type, ast.Tuple) else [node.type]:
                self.assertIn(kind.id, own, f"{name}:{node.lineno}")

    def test_each_name_of_a_top_stands_once_and_is_no_parameter_elsewhere(self):
        for name, tree in trees():
            tops = top_names(tree)
            self.assertEqual(len(tops), len(set(tops)), name)
            drawn = [alias.name for node in tree.body if isinstance(node, ast.ImportFrom) for alias in node.names]
            for node in ast.walk(tree):
                if isinstance(node, (ast.arg, ast.Name)):
                    for bound in bound_names(node):
                        self.assertNotIn(bound, drawn, f"{name}:{node.lineno}")


class TestImports(unittest.TestCase):
    def drawn(self):
        found = {}
        for name, tree in trees():
            found[name[:-3]] = [node for node in ast.walk(tree) if isinstance(node, ast.ImportFrom)]
        return found

    def test_names_are_drawn_from_the_file_that_defines_them(self):
        tops = {name[:-3]: [node.name for node in tree.body if isinstance(node, (ast.FunctionDef, ast.ClassDef))]
                + [node.targets[0].id for node in tree.body if isinstance(node, ast.Assign)]
                for name, tree in trees()}
        for name, rows in self.drawn().items():
            for row in rows:
                self.assertEqual((row.level, row.module.split(".")[0]), (0, "pressluck"), name)
                for alias in row.names:
                    self.assertIn(alias.name, tops[row.module.split(".")[1]], name)

    def test_no_two_files_draw_from_one_another(self):
        steps = {name: {row.module.split(".")[1] for row in rows} for name, rows in self.drawn().items()}
        while steps:
            free = [name for name in steps if not steps[name] & set(steps)]
            self.assertNotEqual(free, [], f"a ring of imports: {sorted(steps)}")
            steps = {name: steps[name] for name in steps if name not in free}


if __name__ == "__main__":
    unittest.main()

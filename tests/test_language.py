"""The part of Python that the package's own files keep to, as far as a test can see it."""

import ast
import builtins
import pathlib
import re
import unittest

PACKAGE = pathlib.Path(__file__).resolve().parent.parent / "heapwords"

NODES = """
Module Expr FunctionDef ClassDef arguments arg Return Assign AugAssign For While If Raise Try ExceptHandler Pass Break
Continue ImportFrom alias Import BoolOp BinOp UnaryOp Lambda IfExp Dict ListComp comprehension Compare Call Constant
Attribute Subscript Name List Tuple Slice JoinedStr FormattedValue Load Store And Or Not Add Sub Mult Mod Pow LShift
RShift BitOr BitXor BitAnd FloorDiv Invert UAdd USub Eq NotEq Lt LtE Gt GtE Is IsNot In NotIn keyword
""".split()

BUILT_IN = """
len range enumerate zip min max sum abs sorted reversed int str bool list tuple dict set frozenset isinstance ord repr
any all divmod Exception ValueError TypeError KeyError IndexError LookupError ZeroDivisionError ArithmeticError
OverflowError RuntimeError NotImplementedError AttributeError StopIteration
""".split()

METHODS = """
append clear copy count endswith extend find get index insert isalnum isalpha isdigit islower isspace isupper items join
keys ljust lower lstrip partition pop remove replace reverse rfind rjust rpartition rsplit rstrip setdefault split
splitlines startswith strip update upper values zfill bit_length
""".split()

WORDS = """
type typing typing_extensions enum Enum IntEnum StrEnum Flag IntFlag Generic Protocol ABC ABCMeta namedtuple NamedTuple
TypedDict TYPE_CHECKING abstractmethod
""".split()


def files():
    return sorted(path for path in PACKAGE.rglob("*") if "__pycache__" not in path.parts)


def trees():
    return [(path.name, ast.parse(path.read_text())) for path in files() if path.suffix == ".py"]


def drawn_from(tree):
    return [node.module for node in ast.walk(tree) if isinstance(node, ast.ImportFrom)]


def drawn_names(tree):
    return [drawn.name for node in tree.body if isinstance(node, ast.ImportFrom) for drawn in node.names]


def defined_in(tree):
    found = [node.name for node in tree.body if isinstance(node, (ast.FunctionDef, ast.ClassDef))]
    return found + [node.targets[0].id for node in tree.body if isinstance(node, ast.Assign)]


class Files(unittest.TestCase):
    def test_plain_names(self):
        self.assertIn(PACKAGE / "__init__.py", files())
        for path in files():
            self.assertRegex(path.name, r"\A([a-z][a-z0-9_]*|__init__)\.py\Z")
            self.assertNotIn(path.stem, vars(builtins))

    def test_plain_signs_and_sizes(self):
        for path in files():
            text = path.read_bytes().decode("ascii")
            self.assertRegex(text, r"\A[ -~\n]*\Z", path.name)
            rows = text.splitlines()
            self.assertLessEqual(len(rows), 400, path.name)
            self.assertLessEqual(max(len(row) for row in rows), 120, path.name)

    def test_words_that_stand_nowhere(self):
        for path in files():
            text = path.read_text()
            self.assertEqual([word for word in WORDS if re.search(rf"\b{word}\b", text)], [], path.name)
            self.assertNotRegex(text, "dataclass|overload|contextmanager")


class Forms(unittest.TestCase):
    def test_statements_and_expressions(self):
        for name, tree in trees():
            for node in ast.walk(tree):
                self.assertIn(type(node).__name__, NODES, (name, getattr(node, "lineno", 0)))

    def test_a_value_by_itself_is_a_call_or_the_docstring_of_a_file(self):
        for name, tree in trees():
            self.assertIsNotNone(ast.get_docstring(tree), name)
            for node in ast.walk(tree):
                if isinstance(node, ast.Expr) and node is not tree.body[0]:
                    self.assertIsInstance(node.value, ast.Call, (name, node.lineno))

    def test_functions(self):
        for name, tree in trees():
            for node in ast.walk(tree):
                if isinstance(node, ast.FunctionDef):
                    self.assertLessEqual(node.end_lineno - node.lineno + 1, 40, (name, node.name))
                    self.assertEqual(node.decorator_list, [], (name, node.name))
                    self.assertEqual((node.args.vararg, node.args.kwarg, node.args.kwonlyargs), (None, None, []))

    def test_one_target_and_plain_constants(self):
        for name, tree in trees():
            for node in ast.walk(tree):
                if isinstance(node, ast.Assign):
                    self.assertEqual(len(node.targets), 1, (name, node.lineno))
                if isinstance(node, ast.Constant):
                    self.assertIsInstance(node.value, (int, str, type(None)), (name, node.lineno))
                if isinstance(node, ast.ListComp):
                    self.assertEqual(len(node.generators), 1, (name, node.lineno))
                    self.assertLessEqual(len(node.generators[0].ifs), 1, (name, node.lineno))


    def test_a_set_is_sorted_on_the_spot(self):
        for name, tree in trees():
            called = [node for node in ast.walk(tree) if isinstance(node, ast.Call) and isinstance(node.func, ast.Name)]
            sets = [node for node in called if node.func.id in ("set", "frozenset")]
            at_once = [node.args[0] for node in called if node.func.id in ("sorted", "len") and not node.keywords]
            self.assertEqual([node.lineno for node in sets if node not in at_once], [], name)

    def test_only_errors_of_the_program_are_taken_and_each_is_made_on_the_spot(self):
        own = [node.name for name, tree in trees() for node in ast.walk(tree) if isinstance(node, ast.ClassDef)]
        for name, tree in trees():
            for node in ast.walk(tree):
                if isinstance(node, ast.ExceptHandler):
                    self.assertIn(node.type.id, own, (name, node.lineno))
                if isinstance(node, ast.Raise):
                    self.assertIsInstance(node.exc, ast.Call, (name, node.lineno))
                    self.assertIn(node.exc.func.id, own, (name, node.lineno))


class Names(unittest.TestCase):
    def test_imports(self):
        modules = ["heapwords." + path.stem for path in files()]
        for name, tree in trees():
            self.assertEqual([node for node in ast.walk(tree) if isinstance(node, ast.Import)], [], name)
            for module in drawn_from(tree):
                self.assertIn(module, modules, name)

    def test_no_two_files_draw_from_one_another(self):
        left = {"heapwords." + name[:-3]: drawn_from(tree) for name, tree in trees()}
        while left:
            free = [module for module in left if not any(other in left for other in left[module])]
            self.assertNotEqual(free, [], sorted(left))
            left = {module: left[module] for module in left if module not in free}

    def test_a_name_is_drawn_from_the_file_that_defines_it(self):
        for name, tree in trees():
            for node in ast.walk(tree):
                if isinstance(node, ast.ImportFrom):
                    source = ast.parse((PACKAGE / (node.module.split(".")[1] + ".py")).read_text())
                    for drawn in node.names:
                        self.assertIsNone(drawn.asname, (name, node.lineno))
                        self.assertIn(drawn.name, defined_in(source), (name, node.lineno))

    def test_each_name_once_at_the_top(self):
        for name, tree in trees():
            bound = defined_in(tree) + drawn_names(tree)
            self.assertEqual(len(bound), len(set(bound)), name)

    def test_no_parameter_or_local_is_called_like_a_name_of_the_top(self):
        for name, tree in trees():
            top = defined_in(tree) + drawn_names(tree)
            for function in [node for node in ast.walk(tree) if isinstance(node, ast.FunctionDef)]:
                for node in ast.walk(function):
                    if isinstance(node, ast.Name) and isinstance(node.ctx, ast.Store):
                        self.assertNotIn(node.id, top, (name, node.lineno))
                    if isinstance(node, ast.arg):
                        self.assertNotIn(node.arg, top, (name, node.lineno))

    def test_built_in_names(self):
        for name, tree in trees():
            for node in ast.walk(tree):
                if isinstance(node, ast.Name) and hasattr(builtins, node.id):
                    self.assertIn(node.id, BUILT_IN, (name, node.lineno))
                    self.assertIsInstance(node.ctx, ast.Load, (name, node.lineno))
                if isinstance(node, ast.arg):
                    self.assertFalse(hasattr(builtins, node.arg), (name, node.lineno))

    def test_no_leading_underscore(self):
        for name, tree in trees():
            for node in ast.walk(tree):
                if isinstance(node, (ast.Name, ast.arg)):
                    self.assertRegex(node.id if isinstance(node, ast.Name) else node.arg, r"\A[A-Za-z]", name)

    def test_methods(self):
        own = [node.name for name, tree in trees() for node in ast.walk(tree) if isinstance(node, ast.FunctionDef)]
        for name, tree in trees():
            for node in ast.walk(tree):
                if isinstance(node, ast.Call) and isinstance(node.func, ast.Attribute):
                    self.assertIn(node.func.attr, METHODS + own, (name, node.lineno))


if __name__ == "__main__":
    unittest.main()

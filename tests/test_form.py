"""Those rules of LANGUAGE.md that can be seen without running the program, asked of each file of the package."""

import ast
import builtins
import pathlib
import re
import unittest

PACKAGE = pathlib.Path(__file__).resolve().parent.parent / "cookcalls"
ROOT = PACKAGE.parent

ALLOWED_BUILTINS = set("""
len range enumerate zip min max sum abs sorted reversed int str bool bytes list tuple dict set isinstance ord repr any
all divmod iter next Exception ValueError TypeError KeyError IndexError LookupError ZeroDivisionError ArithmeticError
OverflowError RuntimeError NotImplementedError AttributeError StopIteration NotImplemented object float super property
staticmethod classmethod
""".split())
BARRED_WORDS = set("""
type typing typing_extensions enum Enum IntEnum StrEnum Flag IntFlag Generic Protocol ABC ABCMeta namedtuple NamedTuple
TypedDict TYPE_CHECKING abstractmethod
""".split())
BARRED_PARTS = ("dataclass", "overload", "contextmanager")
BARRED_NAMES = set("""
register mro elements open input law version_info with_traceback add_note attrgetter breakpoint builtins compile
copyright credits delattr dir eval exec exit gc getattr globals hasattr help id importlib license locals methodcaller os
quit setattr vars sys
""".split())
VALUE_METHODS = set("""
append clear copy count endswith extend find get index insert isalnum isalpha isdigit islower isspace isupper items join
keys ljust lower lstrip partition pop remove replace reverse rfind rjust rpartition rsplit rstrip setdefault split
splitlines startswith strip update upper values zfill bit_length title capitalize swapcase casefold center expandtabs
removeprefix removesuffix rindex isascii isdecimal isnumeric istitle isidentifier isprintable add discard
""".split())
DOUBLE_METHODS = set("""
__init__ __eq__ __repr__ __str__ __len__ __call__ __iter__ __lt__ __le__ __gt__ __ge__ __ne__ __add__ __sub__ __mul__
__and__ __or__ __xor__ __neg__ __bool__ __contains__ __getitem__ __setitem__
""".split())
ANY_OF = ("any", "all", "min", "max", "sum", "sorted")
BARRED_NODES = (ast.Global, ast.AsyncFunctionDef, ast.AsyncFor, ast.AsyncWith, ast.Await, ast.Div, ast.MatMult)


def files():
    return sorted(PACKAGE.rglob("*.py"))


def nodes(kind):
    for path in files():
        for node in ast.walk(ast.parse(path.read_text())):
            if isinstance(node, kind):
                yield f"{path.name}:{getattr(node, 'lineno', 0)}", node


class Files(unittest.TestCase):
    def test_the_package_holds_nothing_but_sources(self):
        self.assertTrue((PACKAGE / "__init__.py").is_file())
        for path in PACKAGE.rglob("*"):
            if "__pycache__" not in path.parts and not path.is_dir():
                self.assertRegex(path.name, r"\A([a-z][a-z0-9_]*|__init__|__main__)\.py\Z")

    def test_sizes_and_characters(self):
        for path in files():
            lines = path.read_text().split("\n")
            self.assertLessEqual(len(lines) - 1, 399, path.name)
            self.assertEqual(lines[-1], "", path.name)
            for at, line in enumerate(lines, 1):
                self.assertRegex(line, r"\A[ -~]{0,120}\Z", f"{path.name}:{at}")

    def test_functions_have_at_most_forty_lines(self):
        for place, node in nodes(ast.FunctionDef):
            self.assertLessEqual(node.end_lineno - node.lineno + 1, 40, place)

    def test_barred_words(self):
        for path in files():
            text = path.read_text()
            self.assertFalse(BARRED_WORDS & set(re.findall(r"\w+", text)), path.name)
            self.assertFalse([part for part in BARRED_PARTS if part in text], path.name)


class Modules(unittest.TestCase):
    def test_imports_name_the_file_that_defines_the_name(self):
        for place, node in nodes((ast.Import, ast.ImportFrom)):
            self.assertIsInstance(node, ast.ImportFrom, place)
            self.assertRegex(node.module, r"\Acookcalls\.\w+\Z", place)
            tree = ast.parse((ROOT / (node.module.replace(".", "/") + ".py")).read_text())
            for alias in node.names:
                self.assertIn(alias.name, self.defined(tree), place)

    def test_no_two_files_import_from_each_other(self):
        uses = {path.stem: self.imported(path) for path in files()}
        while uses:
            free = [stem for stem in uses if not uses[stem] & set(uses)]
            self.assertTrue(free, uses)
            for stem in free:
                del uses[stem]

    def test_only_plain_statements_at_module_level(self):
        kinds = (ast.ImportFrom, ast.FunctionDef, ast.ClassDef, ast.Assign, ast.Expr)
        for path in files():
            for node in ast.parse(path.read_text()).body:
                place = f"{path.name}:{node.lineno}"
                self.assertIsInstance(node, kinds, place)
                if isinstance(node, ast.Expr):
                    self.assertIsInstance(node.value.value, str, place)

    def test_each_name_is_bound_once_at_module_level(self):
        for path in files():
            tree = ast.parse(path.read_text())
            names = self.defined(tree) + [alias.asname or alias.name for node in tree.body
                                          if isinstance(node, ast.ImportFrom) for alias in node.names]
            self.assertEqual(len(set(names)), len(names), path.name)

    def test_no_local_name_is_that_of_a_class_an_import_or_a_generator(self):
        generators = set(self.generators())
        for path in files():
            tree = ast.parse(path.read_text())
            taken = {node.name for node in tree.body if isinstance(node, ast.ClassDef)} | generators
            taken |= {alias.name for node in tree.body if isinstance(node, ast.ImportFrom) for alias in node.names}
            for node in tree.body:
                if not isinstance(node, ast.Assign):
                    self.assertFalse(self.bound(node) & taken, f"{path.name}:{node.lineno}")

    def test_generators_share_their_names_with_no_function(self):
        names = [node.name for _, node in nodes(ast.FunctionDef)]
        for name in self.generators():
            self.assertEqual(names.count(name), 1, name)

    def generators(self):
        for _, node in nodes(ast.FunctionDef):
            if any(isinstance(part, (ast.Yield, ast.YieldFrom)) for part in ast.walk(node)):
                yield node.name

    def defined(self, tree):
        names = [node.name for node in tree.body if isinstance(node, (ast.FunctionDef, ast.ClassDef))]
        return names + [node.targets[0].id for node in tree.body if isinstance(node, ast.Assign)]

    def imported(self, path):
        tree = ast.parse(path.read_text())
        return {node.module.split(".")[-1] for node in tree.body if isinstance(node, ast.ImportFrom)}

    def bound(self, tree):
        names = {node.arg for node in ast.walk(tree) if isinstance(node, ast.arg)}
        return names | {node.id for node in ast.walk(tree)
                        if isinstance(node, ast.Name) and not isinstance(node.ctx, ast.Load)}


class Names(unittest.TestCase):
    def test_plain_names(self):
        for place, name in self.all_names():
            self.assertRegex(name, r"\A[A-Za-z]", place)
            self.assertNotIn(name, BARRED_NAMES, place)

    def test_builtins(self):
        for place, node in nodes(ast.Name):
            if isinstance(node.ctx, ast.Load) and node.id in dir(builtins):
                self.assertIn(node.id, ALLOWED_BUILTINS, place)
            elif not isinstance(node.ctx, ast.Load):
                self.assertNotIn(node.id, dir(builtins), place)
        for place, node in nodes(ast.arg):
            self.assertNotIn(node.arg, dir(builtins), place)

    def test_methods_that_are_called(self):
        own = {node.name for _, node in nodes(ast.FunctionDef)}
        for place, node in nodes(ast.Call):
            if isinstance(node.func, ast.Attribute):
                self.assertIn(node.func.attr, VALUE_METHODS | own, place)

    def test_double_underscore_methods(self):
        for place, node in nodes(ast.FunctionDef):
            if node.name.startswith("_"):
                self.assertIn(node.name, DOUBLE_METHODS, place)

    def test_no_name_is_a_method_and_an_attribute(self):
        methods = {method.name for _, node in nodes(ast.ClassDef) for method in node.body
                   if isinstance(method, ast.FunctionDef)}
        stored = {node.attr for _, node in nodes(ast.Attribute) if isinstance(node.ctx, ast.Store)}
        read = {node.attr for _, node in nodes(ast.Attribute) if isinstance(node.ctx, ast.Load)}
        self.assertFalse(methods & stored)
        self.assertFalse(read - methods - stored - VALUE_METHODS)

    def all_names(self):
        for place, node in nodes((ast.Name, ast.arg, ast.FunctionDef, ast.ClassDef, ast.Attribute)):
            for field in ("id", "arg", "name", "attr"):
                name = getattr(node, field, "a")
                if name not in DOUBLE_METHODS:
                    yield place, name


class Statements(unittest.TestCase):
    def test_what_is_not_in_the_language(self):
        for place, node in nodes(BARRED_NODES):
            self.fail(f"{place} {node}")
        for place, node in nodes(ast.Constant):
            self.assertNotIsInstance(node.value, (float, complex), place)
            if isinstance(node.value, str):
                self.assertNotIn("%", node.value, place)

    def test_is_with_none_true_and_false_alone(self):
        for place, node in nodes(ast.Compare):
            for sign, right in zip(node.ops, node.comparators):
                if isinstance(sign, (ast.Is, ast.IsNot)):
                    self.assertIn(getattr(right, "value", 0), (None, True, False), place)

    def test_no_generator_expressions_beside_operators(self):
        for place, node in nodes(ast.Call):
            if isinstance(node.func, ast.Name) and node.func.id in ANY_OF:
                self.assertNotIsInstance(node.args[0], ast.GeneratorExp, place)

    def test_iteration_is_the_one_statement(self):
        for place, node in nodes(ast.FunctionDef):
            if node.name == "__iter__":
                self.assertRegex(ast.unparse(node.body), r"\Areturn iter\(self(\.\w+){1,2}\)\Z", place)

    def test_only_own_errors_and_few_others_are_caught_by_name(self):
        for place, node in nodes(ast.ExceptHandler):
            self.assertIsNotNone(node.type, place)
            self.assertNotRegex(ast.unparse(node.type), r"\b(Exception|TypeError|ArithmeticError|OverflowError|"
                                r"RuntimeError|NotImplementedError|AttributeError)\b", place)


if __name__ == "__main__":
    unittest.main()

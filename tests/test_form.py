"""The form of the package's code: the rules of LANGUAGE.md that can be seen line by line."""

import ast
import builtins
import functools
import os
import re
import tokenize
import unittest

ROOT = os.path.dirname(os.path.dirname(os.path.abspath(__file__)))
PACKAGE = os.path.join(ROOT, "answersalone")
LIBRARY = {
    "heapq": {"heappush", "heappop", "heapify", "heapreplace", "heappushpop"},
    "math": {"gcd", "lcm", "isqrt", "comb", "perm", "factorial"},
    "itertools": {
        "product", "combinations", "permutations", "chain", "accumulate", "pairwise", "islice", "zip_longest",
    },
    "collections": {"defaultdict"},
}
BUILTINS = set(
    "len range enumerate zip min max sum abs sorted reversed int str bool bytes list tuple dict set frozenset "
    "isinstance ord repr any all divmod pow getattr hasattr setattr iter next map super property staticmethod "
    "classmethod object Exception ValueError TypeError KeyError IndexError LookupError ZeroDivisionError "
    "ArithmeticError OverflowError RuntimeError NotImplementedError AttributeError StopIteration "
    "NotImplemented".split()
)
METHODS = set(
    "append clear copy count endswith extend find get index insert isalnum isalpha isdigit islower isspace isupper "
    "items join keys ljust lower lstrip partition pop remove replace reverse rfind rjust rpartition rsplit rstrip "
    "setdefault split splitlines startswith strip update upper values zfill bit_length title capitalize swapcase "
    "casefold center expandtabs removeprefix removesuffix rindex isascii isdecimal isnumeric istitle isidentifier "
    "isprintable add discard format".split()
)
# The methods of a net, which the interface lists and a later file defines.
NET_METHODS = {"place", "weights"}
SPECIAL = set(
    "init eq repr str len enter exit call iter lt le gt ge ne add sub mul floordiv mod pow and or xor lshift rshift "
    "radd rsub rmul rfloordiv rmod rand ror rxor rlshift rrshift iadd isub imul ifloordiv imod ipow iand ior ixor "
    "ilshift irshift neg pos invert abs bool contains getitem setitem".split()
)
STATEMENTS = (
    ast.FunctionDef, ast.ClassDef, ast.Return, ast.Delete, ast.Assign, ast.AugAssign, ast.AnnAssign, ast.For, ast.While,
    ast.If, ast.With, ast.Match, ast.Raise, ast.Try, ast.Assert, ast.ImportFrom, ast.Nonlocal, ast.Expr, ast.Pass,
    ast.Break, ast.Continue,
)
NEVER_NAMED = {"register", "mro", "elements", "open", "input", "law", "version_info", "with_traceback", "add_note"}
NEVER_WRITTEN = set(
    "type typing typing_extensions enum Enum IntEnum StrEnum Flag IntFlag Generic Protocol ABC ABCMeta namedtuple "
    "NamedTuple TypedDict TYPE_CHECKING abstractmethod".split()
)


def paths():
    found = []
    for folder, folders, files in os.walk(PACKAGE):
        folders[:] = sorted(name for name in folders if name != "__pycache__")
        found += [os.path.join(folder, name) for name in sorted(files)]
    return found


def source(path):
    with open(path, encoding="utf-8", newline="") as file:
        return file.read()


@functools.lru_cache(maxsize=None)
def trees():
    return [(os.path.relpath(path, ROOT), ast.parse(source(path))) for path in paths()]


def nodes(*kinds):
    for path, tree in trees():
        for node in ast.walk(tree):
            if isinstance(node, kinds):
                yield f"{path}:{getattr(node, 'lineno', 0)}", node


def own_methods():
    return {
        row.name for _, node in nodes(ast.ClassDef) for row in node.body if isinstance(row, ast.FunctionDef)
    }


def bound_names():
    """All names that the package gives to something, but for methods and attributes."""
    methods = {id(row) for _, node in nodes(ast.ClassDef) for row in node.body}
    for where, node in nodes(ast.Name, ast.arg, ast.FunctionDef, ast.ClassDef, ast.alias):
        if isinstance(node, ast.Name) and isinstance(node.ctx, ast.Store):
            yield where, node.id
        elif isinstance(node, ast.arg):
            yield where, node.arg
        elif isinstance(node, (ast.FunctionDef, ast.ClassDef)) and id(node) not in methods:
            yield where, node.name
        elif isinstance(node, ast.alias):
            yield where, node.asname or node.name


class FilesTest(unittest.TestCase):
    def test_files(self):
        self.assertGreater(len(paths()), 0)
        for path in paths():
            self.assertRegex(os.path.basename(path), r"^([a-z][a-z0-9_]*|__init__|__main__)\.py$")
            text = source(path)
            for at, line in enumerate(text.split("\n"), 1):
                self.assertLessEqual(len(line), 120, f"L10 {path}:{at}")
                self.assertRegex(line, r"\A[ -~]*\Z", f"L14 {path}:{at}")
            self.assertLessEqual(text.count("\n"), 399, f"L10 {path}")
            self.assertTrue(text.endswith("\n"), path)

    def test_sizes_of_functions(self):
        for where, node in nodes(ast.FunctionDef):
            self.assertLessEqual(node.end_lineno - node.lineno + 1, 40, f"L10 {where}")

    def test_words_that_stand_nowhere(self):
        for path in paths():
            with open(path, "rb") as file:
                for piece in tokenize.tokenize(file.readline):
                    if piece.type == tokenize.NAME:
                        self.assertNotIn(piece.string, NEVER_WRITTEN, f"L17 {path}:{piece.start[0]}")
            self.assertIsNone(re.search(r"_wall|_WallAttr|dataclass|overload|contextmanager", source(path)), path)


class ImportsTest(unittest.TestCase):
    def test_each_name_comes_from_its_own_file(self):
        for where, node in nodes(ast.ImportFrom):
            self.assertEqual(node.level, 0, f"L2 {where}")
            names = [alias.name for alias in node.names]
            if node.module in LIBRARY:
                self.assertLessEqual(set(names), LIBRARY[node.module], f"L2 {where}")
                continue
            path = os.path.join(ROOT, *node.module.split(".")) + ".py"
            self.assertTrue(node.module.startswith("answersalone.") and os.path.isfile(path), f"L2 {where}")
            defined = set()
            for row in ast.parse(source(path)).body:
                if isinstance(row, (ast.FunctionDef, ast.ClassDef)):
                    defined.add(row.name)
                elif isinstance(row, ast.Assign):
                    defined.add(row.targets[0].id)
            self.assertLessEqual(set(names), defined, f"L16 {where}")
        self.assertEqual([where for where, _ in nodes(ast.Import)], [], "L2")

    def test_no_two_files_import_from_each_other(self):
        needs = {}
        for path, tree in trees():
            name = path[:-3].replace(os.sep, ".")
            needs[name] = {row.module for row in tree.body if isinstance(row, ast.ImportFrom)} - set(LIBRARY)
        while needs:
            free = [name for name, modules in needs.items() if not modules & set(needs)]
            self.assertNotEqual(free, [], f"L16 {sorted(needs)}")
            for name in free:
                del needs[name]

    def test_nothing_imported_is_left_unused(self):
        for path, tree in trees():
            names = [alias.name for row in tree.body if isinstance(row, ast.ImportFrom) for alias in row.names]
            used = {node.id for node in ast.walk(tree) if isinstance(node, ast.Name)}
            self.assertLessEqual(set(names), used, path)


class NamesTest(unittest.TestCase):
    def test_no_builtin_is_given_another_meaning(self):
        for where, name in bound_names():
            self.assertNotIn(name, set(dir(builtins)), f"L15 {where}")

    def test_names(self):
        for where, name in bound_names():
            self.assertRegex(name, r"\A(_|_?[A-Za-z][A-Za-z0-9_]*)\Z", f"L12 {where}")
            self.assertNotIn(name, NEVER_NAMED, f"L17 {where}")
        for where, node in nodes(ast.Attribute):
            self.assertNotIn(node.attr, NEVER_NAMED, f"L17 {where}")

    def test_builtins(self):
        for path, tree in trees():
            for node in ast.walk(tree):
                if isinstance(node, ast.Name) and node.id in dir(builtins) and not path.endswith("__main__.py"):
                    self.assertIn(node.id, BUILTINS, f"L8 {path}:{node.lineno}")

    def test_methods(self):
        allowed = METHODS | own_methods() | NET_METHODS
        for where, node in nodes(ast.Call):
            if isinstance(node.func, ast.Attribute):
                self.assertIn(node.func.attr, allowed, f"L25 {where}")

    def test_double_underscore_methods(self):
        for where, node in nodes(ast.FunctionDef):
            if node.name.startswith("__"):
                self.assertIn(node.name.strip("_"), SPECIAL, f"L5 {where}")

    def test_a_name_is_bound_once_in_a_file(self):
        for path, tree in trees():
            names = []
            for row in tree.body:
                if isinstance(row, (ast.FunctionDef, ast.ClassDef)):
                    names.append(row.name)
                elif isinstance(row, ast.ImportFrom):
                    names += [alias.name for alias in row.names]
                elif isinstance(row, ast.Assign):
                    names += [target.id for target in row.targets]
            self.assertEqual(len(names), len(set(names)), f"L15 {path}")


class CodeTest(unittest.TestCase):
    def test_module_level(self):
        for path, tree in trees():
            for row in tree.body:
                where = f"L3 {path}:{row.lineno}"
                self.assertIsInstance(row, (ast.ImportFrom, ast.FunctionDef, ast.ClassDef, ast.Assign, ast.Expr), where)
                if isinstance(row, ast.Assign):
                    ast.literal_eval(row.value)
                elif isinstance(row, ast.Expr):
                    self.assertIsInstance(row.value, ast.Constant, where)

    def test_statements(self):
        for where, node in nodes(ast.stmt):
            self.assertIsInstance(node, STATEMENTS, f"L6 {where}")

    def test_expressions(self):
        for where, node in nodes(ast.Div, ast.MatMult, ast.Await, ast.Constant):
            self.assertIsInstance(node, ast.Constant, f"L7 {where}")
            self.assertNotIsInstance(node.value, (float, complex), f"L7 {where}")
            if isinstance(node.value, str):
                self.assertNotIn("%", node.value, f"L27 {where}")

    def test_generator_expressions(self):
        allowed = set()
        for _, node in nodes(ast.Call):
            # Classes have their own ==, so any, all, sum and the like take lists.
            word = getattr(node.func, "id", getattr(node.func, "attr", ""))
            if word in ("list", "tuple", "dict", "join"):
                allowed |= {id(given) for given in node.args}
        for where, node in nodes(ast.GeneratorExp):
            self.assertIn(id(node), allowed, f"L7 {where}")

    def test_decorators(self):
        for where, node in nodes(ast.FunctionDef, ast.ClassDef):
            for decorator in node.decorator_list:
                word = decorator.attr if isinstance(decorator, ast.Attribute) else decorator.id
                self.assertIn(word, ("property", "setter", "staticmethod", "classmethod"), f"L5 {where}")

    def test_is(self):
        for where, node in nodes(ast.Compare):
            for sign, right in zip(node.ops, node.comparators):
                if isinstance(sign, (ast.Is, ast.IsNot)):
                    self.assertIsInstance(right, ast.Constant, f"L20 {where}")

    def test_handlers_name_their_errors(self):
        for where, node in nodes(ast.ExceptHandler):
            self.assertIsNotNone(node.type, f"L6 {where}")


if __name__ == "__main__":
    unittest.main()

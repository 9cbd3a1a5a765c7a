"""The form of the package's code: the rules of LANGUAGE.md that can be seen line by line."""

import ast
import builtins
import functools
import os
import re
import tokenize
import unittest

ROOT = os.path.dirname(os.path.dirname(os.path.abspath(__file__)))
PACKAGE = os.path.join(ROOT, "answersalone")
LIBRARY = {
    "heapq": {"heappush", "heappop", "heapify", "heapreplace", "heappushpop"},
    "math": {"gcd", "lcm", "isqrt", "comb", "perm", "factorial"},
    # A class has __iter__ and __len__, so product, combinations and permutations are not used: L2 Products.
    "itertools": {"chain", "accumulate", "pairwise", "islice", "zip_longest"},
    "collections": {"defaultdict"},
}
BUILTINS = set(
    "len range enumerate zip min max sum abs sorted reversed int str bool bytes list tuple dict set frozenset "
    "isinstance ord repr any all divmod pow getattr hasattr setattr iter next map super property staticmethod "
    "classmethod object Exception ValueError TypeError KeyError IndexError LookupError ZeroDivisionError "
    "ArithmeticError OverflowError RuntimeError NotImplementedError AttributeError StopIteration "
    "NotImplemented".split()
)
METHODS = set(
    "append clear copy count endswith extend find get index insert isalnum isalpha isdigit islower isspace isupper "
    "items join keys ljust lower lstrip partition pop remove replace reverse rfind rjust rpartition rsplit rstrip "
    "setdefault split splitlines startswith strip update upper values zfill bit_length title capitalize swapcase "
    "casefold center expandtabs removeprefix removesuffix rindex isascii isdecimal isnumeric istitle isidentifier "
    "isprintable add discard format".split()
)
SPECIAL = set(
    "init eq repr str len enter exit call iter lt le gt ge ne add sub mul floordiv mod pow and or xor lshift rshift "
    "radd rsub rmul rfloordiv rmod rand ror rxor rlshift rrshift iadd isub imul ifloordiv imod ipow iand ior ixor "
    "ilshift irshift neg pos invert abs bool contains getitem setitem".split()
)
STATEMENTS = (
    ast.FunctionDef, ast.ClassDef, ast.Return, ast.Delete, ast.Assign, ast.AugAssign, ast.AnnAssign, ast.For, ast.While,
    ast.If, ast.With, ast.Match, ast.Raise, ast.Try, ast.Assert, ast.ImportFrom, ast.Nonlocal, ast.Expr, ast.Pass,
    ast.Break, ast.Continue,
)
NEVER_NAMED = {"register", "mro", "elements", "open", "input", "law", "version_info", "with_traceback", "add_note"}
NEVER_WRITTEN = set(
    "type typing typing_extensions enum Enum IntEnum StrEnum Flag IntFlag Generic Protocol ABC ABCMeta namedtuple "
    "NamedTuple TypedDict TYPE_CHECKING abstractmethod".split()
)


def paths():
    found = []
    for folder, folders, files in os.walk(PACKAGE):
        folders[:] = sorted(name for name in folders if name != "__pycache__")
        found += [os.path.join(folder, name) for name in sorted(files)]
    return found


def source(path):
    with open(path, encoding="utf-8", newline="") as file:
        return file.read()


@functools.lru_cache(maxsize=None)
def trees():
    return [(os.path.relpath(path, ROOT), ast.parse(source(path))) for path in paths()]


def nodes(*kinds):
    for path, tree in trees():
        for node in ast.walk(tree):
            if isinstance(node, kinds):
                yield f"{path}:{getattr(node, 'lineno', 0)}", node


def own_methods():
    return {
        row.name for _, node in nodes(ast.ClassDef) for row in node.body if isinstance(row, ast.FunctionDef)
    }


def bound_names():
    """All names that the package gives to something, but for methods and attributes."""
    methods = {id(row) for _, node in nodes(ast.ClassDef) for row in node.body}
    for where, node in nodes(ast.Name, ast.arg, ast.FunctionDef, ast.ClassDef, ast.alias):
        if isinstance(node, ast.Name) and isinstance(node.ctx, ast.Store):
            yield where, node.id
        elif isinstance(node, ast.arg):
            yield where, node.arg
        elif isinstance(node, (ast.FunctionDef, ast.ClassDef)) and id(node) not in methods:
            yield where, node.name
        elif isinstance(node, ast.alias):
            yield where, node.asname or node.name


class FilesTest(unittest.TestCase):
    def test_files(self):
        self.assertGreater(len(paths()), 0)
        for path in paths():
            self.assertRegex(os.path.basename(path), r"^([a-z][a-z0-9_]*|__init__|__main__)\.py$")
            text = source(path)
            for at, line in enumerate(text.split("\n"), 1):
                self.assertLessEqual(len(line), 120, f"L10 {path}:{at}")
                self.assertRegex(line, r"\A[ -~]*\Z", f"L14 {path}:{at}")
            self.assertLessEqual(text.count("\n"), 399, f"L10 {path}")
            self.assertTrue(text.endswith("\n"), path)

    def test_sizes_of_functions(self):
        for where, node in nodes(ast.FunctionDef):
            self.assertLessEqual(node.end_lineno - node.lineno + 1, 40, f"L10 {where}")

    def test_words_that_stand_nowhere(self):
        for path in paths():
            with open(path, "rb") as file:
                for piece in tokenize.tokenize(file.readline):
                    if piece.type == tokenize.NAME:
                        self.assertNotIn(piece.string, NEVER_WRITTEN, f"L17 {path}:{piece.start[0]}")
            self.assertIsNone(re.search(r"_wall|_WallAttr|dataclass|overload|contextmanager", source(path)), path)


class ImportsTest(unittest.TestCase):
    def test_each_name_comes_from_its_own_file(self):
        for where, node in nodes(ast.ImportFrom):
            self.assertEqual(node.level, 0, f"L2 {where}")
            names = [alias.name for alias in node.names]
            if node.module in LIBRARY:
                self.assertLessEqual(set(names), LIBRARY[node.module], f"L2 {where}")
                continue
            path = os.path.join(ROOT, *node.module.split(".")) + ".py"
            self.assertTrue(node.module.startswith("answersalone.") and os.path.isfile(path), f"L2 {where}")
            defined = set()
            for row in ast.parse(source(path)).body:
                if isinstance(row, (ast.FunctionDef, ast.ClassDef)):
                    defined.add(row.name)
                elif isinstance(row, ast.Assign):
                    defined.add(row.targets[0].id)
            self.assertLessEqual(set(names), defined, f"L16 {where}")
        self.assertEqual([where for where, _ in nodes(ast.Import)], [], "L2")

    def test_no_two_files_import_from_each_other(self):
        needs = {}
        for path, tree in trees():
            name = path[:-3].replace(os.sep, ".")
            needs[name] = {row.module for row in tree.body if isinstance(row, ast.ImportFrom)} - set(LIBRARY)
        while needs:
            free = [name for name, modules in needs.items() if not modules & set(needs)]
            self.assertNotEqual(free, [], f"L16 {sorted(needs)}")
            for name in free:
                del needs[name]

    def test_nothing_imported_is_left_unused(self):
        for path, tree in trees():
            names = [alias.name for row in tree.body if isinstance(row, ast.ImportFrom) for alias in row.names]
            used = {node.id for node in ast.walk(tree) if isinstance(node, ast.Name)}
            self.assertLessEqual(set(names), used, path)


class NamesTest(unittest.TestCase):
    def test_no_builtin_is_given_another_meaning(self):
        for where, name in bound_names():
            self.assertNotIn(name, set(dir(builtins)), f"L15 {where}")

    def test_names(self):
        for where, name in bound_names():
            self.assertRegex(name, r"\A(_|_?[A-Za-z][A-Za-z0-9_]*)\Z", f"L12 {where}")
            self.assertNotIn(name, NEVER_NAMED, f"L17 {where}")
        for where, node in nodes(ast.Attribute):
            self.assertNotIn(node.attr, NEVER_NAMED, f"L17 {where}")

    def test_builtins(self):
        for path, tree in trees():
            for node in ast.walk(tree):
                if isinstance(node, ast.Name) and node.id in dir(builtins) and not path.endswith("__main__.py"):
                    self.assertIn(node.id, BUILTINS, f"L8 {path}:{node.lineno}")

    def test_methods(self):
        allowed = METHODS | own_methods()
        for where, node in nodes(ast.Call):
            if isinstance(node.func, ast.Attribute):
                self.assertIn(node.func.attr, allowed, f"L25 {where}")

    def test_double_underscore_methods(self):
        for where, node in nodes(ast.FunctionDef):
            if node.name.startswith("__"):
                self.assertIn(node.name.strip("_"), SPECIAL, f"L5 {where}")

    def test_a_name_is_bound_once_in_a_file(self):
        for path, tree in trees():
            names = []
            for row in tree.body:
                if isinstance(row, (ast.FunctionDef, ast.ClassDef)):
                    names.append(row.name)
                elif isinstance(row, ast.ImportFrom):
                    names += [alias.name for alias in row.names]
                elif isinstance(row, ast.Assign):
                    names += [target.id for target in row.targets]
            self.assertEqual(len(names), len(set(names)), f"L15 {path}")


class CodeTest(unittest.TestCase):
    def test_module_level(self):
        for path, tree in trees():
            for row in tree.body:
                where = f"L3 {path}:{row.lineno}"
                self.assertIsInstance(row, (ast.ImportFrom, ast.FunctionDef, ast.ClassDef, ast.Assign, ast.Expr), where)
                if isinstance(row, ast.Assign):
                    ast.literal_eval(row.value)
                elif isinstance(row, ast.Expr):
                    self.assertIsInstance(row.value, ast.Constant, where)

    def test_statements(self):
        for where, node in nodes(ast.stmt):
            self.assertIsInstance(node, STATEMENTS, f"L6 {where}")

    def test_expressions(self):
        for where, node in nodes(ast.Div, ast.MatMult, ast.Await, ast.Constant):
            self.assertIsInstance(node, ast.Constant, f"L7 {where}")
            self.assertNotIsInstance(node.value, (float, complex), f"L7 {where}")
            if isinstance(node.value, str):
                self.assertNotIn("%", node.value, f"L27 {where}")

    def test_generator_expressions(self):
        allowed = set()
        for _, node in nodes(ast.Call):
            # Classes have their own ==, so any, all, sum and the like take lists.
            word = getattr(node.func, "id", getattr(node.func, "attr", ""))
            if word in ("list", "tuple", "dict", "join"):
                allowed |= {id(given) for given in node.args}
        for where, node in nodes(ast.GeneratorExp):
            self.assertIn(id(node), allowed, f"L7 {where}")

    def test_decorators(self):
        for where, node in nodes(ast.FunctionDef, ast.ClassDef):
            for decorator in node.decorator_list:
                word = decorator.attr if isinstance(decorator, ast.Attribute) else decorator.id
                self.assertIn(word, ("property", "setter", "staticmethod", "classmethod"), f"L5 {where}")

    def test_is(self):
        for where, node in nodes(ast.Compare):
            for sign, right in zip(node.ops, node.comparators):
                if isinstance(sign, (ast.Is, ast.IsNot)):
                    self.assertIsInstance(right, ast.Constant, f"L20 {where}")

    def test_handlers_name_their_errors(self):
        for where, node in nodes(ast.ExceptHandler):
            self.assertIsNotNone(node.type, f"L6 {where}")

    def test_handlers_catch_own_errors(self):
        own = {node.name for _, node in nodes(ast.ClassDef)} | {"KeyError", "ZeroDivisionError"}
        for where, node in nodes(ast.ExceptHandler):
            caught = node.type.elts if isinstance(node.type, ast.Tuple) else [node.type]
            self.assertLessEqual({item.id for item in caught}, own, f"L19 {where}")

    def test_errors_are_made_on_the_spot(self):
        for where, node in nodes(ast.Raise):
            if node.exc is not None:
                self.assertIsInstance(node.exc, ast.Call, f"L19 {where}")
                self.assertIsInstance(node.exc.func, ast.Name, f"L19 {where}")

    def test_default_values_are_plain(self):
        for where, node in nodes(ast.FunctionDef):
            for default in node.args.defaults + [item for item in node.args.kw_defaults if item is not None]:
                self.assertIsInstance(default, (ast.Constant, ast.Name, ast.Tuple, ast.UnaryOp), f"L4 {where}")

    def test_no_annotations(self):
        for where, node in nodes(ast.FunctionDef):
            self.assertIsNone(node.returns, f"L21 {where}")
        for where, node in nodes(ast.arg):
            self.assertIsNone(node.annotation, f"L21 {where}")
        self.assertEqual([where for where, _ in nodes(ast.AnnAssign)], [], "L21")

    def test_stars_in_calls(self):
        for where, node in nodes(ast.Call):
            for given in node.args:
                if isinstance(given, ast.Starred):
                    self.assertIsInstance(given.value, (ast.Name, ast.Attribute), f"L7 {where}")


class ClassesTest(unittest.TestCase):
    """Names of methods, properties and attributes."""

    def members(self):
        """For each class its plain methods, its properties, and the attributes that its methods assign to self."""
        for _, node in nodes(ast.ClassDef):
            methods, properties, attributes = set(), set(), set()
            for row in node.body:
                if isinstance(row, ast.FunctionDef):
                    words = {getattr(item, "id", "") for item in row.decorator_list}
                    (properties if "property" in words else methods).add(row.name)
            for part in ast.walk(node):
                if isinstance(part, ast.Attribute) and isinstance(part.ctx, ast.Store):
                    attributes.add(part.attr)
            yield node.name, methods, properties, attributes

    def test_no_name_is_a_method_and_an_attribute(self):
        all_methods, all_properties, all_attributes = set(), set(), set()
        for _, methods, properties, attributes in self.members():
            all_methods |= methods
            all_properties |= properties
            all_attributes |= attributes
        self.assertEqual(all_methods & all_properties, set(), "L5")
        self.assertEqual(all_attributes & all_properties, set(), "L5")
        self.assertEqual(all_attributes & all_methods, set(), "L18")
        self.assertEqual(all_attributes & (METHODS - {"index", "count", "find", "get", "copy", "title"}), set(), "L26")

    def test_attributes_that_are_read_are_assigned(self):
        known = set(METHODS)
        for name, methods, properties, attributes in self.members():
            known |= methods | properties | attributes
        for where, node in nodes(ast.Attribute):
            self.assertIn(node.attr, known, f"L18 {where}")

    def test_no_method_is_defined_twice(self):
        for where, node in nodes(ast.ClassDef):
            names = [row.name for row in node.body if isinstance(row, ast.FunctionDef)]
            self.assertEqual(len(names), len(set(names)), f"L18 {where}")

    def test_names_of_generators(self):
        made = [node.name for _, node in nodes(ast.FunctionDef) if any(
            isinstance(part, (ast.Yield, ast.YieldFrom)) for part in ast.walk(node))]
        every = [node.name for _, node in nodes(ast.FunctionDef)]
        for name in made:
            self.assertEqual(every.count(name), 1, f"L23 {name}")
            self.assertNotIn(name, METHODS, "L23")

    def test_attributes_are_assigned_through_a_name(self):
        for where, node in nodes(ast.Attribute):
            if isinstance(node.ctx, ast.Store):
                self.assertIsInstance(node.value, ast.Name, f"L18 {where}")


class SpecialMethodsTest(unittest.TestCase):
    """L5 Operators and L28: what double-underscore methods and properties return and leave as it is."""

    ARITHMETIC = ("__add__", "__sub__", "__mul__")

    def methods(self, *names):
        for where, node in nodes(ast.FunctionDef):
            words = [getattr(item, "id", "") for item in node.decorator_list]
            if node.name in names or ("property" in names and "property" in words):
                yield where, node

    def returned(self, node):
        return [row.value for row in ast.walk(node) if isinstance(row, ast.Return)]

    def test_texts(self):
        for where, node in self.methods("__str__", "__repr__"):
            self.assertIsInstance(node.body[-1], ast.Return, f"L28 {where}")
            for value in self.returned(node):
                called = isinstance(value, ast.Call) and (
                    getattr(value.func, "id", None) in ("str", "repr")
                    or getattr(value.func, "attr", None) == "join" and isinstance(value.func.value, ast.Constant))
                text = isinstance(value, ast.Constant) and isinstance(value.value, str)
                self.assertTrue(called or text or isinstance(value, ast.JoinedStr), f"L28 {where}")

    def test_lengths(self):
        for where, node in self.methods("__len__"):
            for value in self.returned(node):
                self.assertEqual(getattr(value.func, "id", None), "len", f"L28 {where}")

    def test_equality(self):
        for where, node in self.methods("__eq__"):
            (row,) = node.body
            first, *others = row.value.values
            self.assertEqual(first.func.id, "isinstance", where)
            self.assertEqual(first.args[1].id, self.class_of(node), where)
            for other in others:
                left, right = other.left, other.comparators[0]
                self.assertEqual((left.value.id, right.value.id, left.attr), ("self", "other", right.attr), where)

    def class_of(self, method):
        return [node.name for _, node in nodes(ast.ClassDef) if method in node.body][0]

    def test_arithmetic_takes_its_own_class_alone(self):
        for where, node in self.methods(*self.ARITHMETIC):
            first, last = node.body
            self.assertEqual(ast.unparse(first),
                             f"if not isinstance(other, {self.class_of(node)}):\n    return NotImplemented", where)
            self.assertIsInstance(last, ast.Return, where)

    def test_they_change_nothing(self):
        names = ("__str__", "__repr__", "__len__", "__eq__", "__bool__", "__contains__", "__neg__", "property")
        for where, node in self.methods(*names, *self.ARITHMETIC):
            for part in ast.walk(node):
                if isinstance(part, (ast.Attribute, ast.Subscript)):
                    self.assertIsInstance(part.ctx, ast.Load, f"L5 {where}")
                if isinstance(part, ast.Call) and isinstance(part.func, ast.Attribute):
                    self.assertNotIn(part.func.attr, ("append", "pop", "update", "clear", "extend"), f"L5 {where}")

    def test_iteration_and_truth(self):
        for where, node in self.methods("__iter__"):
            self.assertRegex(ast.unparse(node.body[-1]), r"\Areturn iter\(self\._?[a-z]+\)\Z", f"L5 {where}")
        for where, node in self.methods("__bool__"):
            for value in self.returned(node):
                plain = isinstance(value, ast.Constant) and isinstance(value.value, bool)
                called = isinstance(value, ast.Call) and value.func.id == "bool"
                asked = isinstance(value, ast.Compare) and isinstance(value.ops[0], (ast.Is, ast.IsNot, ast.In))
                self.assertTrue(plain or called or asked, f"L5 {where}")

    def test_finally(self):
        for where, node in nodes(ast.Try):
            for row in node.finalbody:
                self.assertIsInstance(row, ast.Assign, f"L6 {where}")
                self.assertIsInstance(row.value, (ast.Constant, ast.Name), f"L6 {where}")
                self.assertIsInstance(row.targets[0], (ast.Attribute, ast.Name), f"L6 {where}")

    def test_words_in_strings(self):
        docs = set()
        for _, node in nodes(ast.Module, ast.ClassDef, ast.FunctionDef):
            docs.add(id(getattr(node.body[0], "value", None)) if node.body else None)
        for where, node in nodes(ast.Constant):
            if isinstance(node.value, str) and id(node) not in docs:
                self.assertEqual(set(re.findall(r"\w+", node.value)) & NEVER_WRITTEN, set(), f"L17 {where}")
                self.assertNotIn("__", node.value, f"L27 {where}")


class LocalNamesTest(unittest.TestCase):
    def test_no_local_name_is_a_class_or_an_import_of_its_file(self):
        for path, tree in trees():
            taken = set()
            for row in tree.body:
                if isinstance(row, ast.ClassDef):
                    taken.add(row.name)
                elif isinstance(row, ast.ImportFrom):
                    taken |= {alias.name for alias in row.names}
            for node in ast.walk(tree):
                word = None
                if isinstance(node, ast.arg):
                    word = node.arg
                elif isinstance(node, ast.Name) and isinstance(node.ctx, ast.Store):
                    word = node.id
                self.assertNotIn(word, taken, f"L15 {path}:{getattr(node, 'lineno', 0)}")

    def test_imports_stand_at_the_top(self):
        for path, tree in trees():
            rows = [row for row in tree.body if not (isinstance(row, ast.Expr) and isinstance(row.value, ast.Constant))]
            kinds = [isinstance(row, ast.ImportFrom) for row in rows]
            self.assertEqual(kinds, sorted(kinds, reverse=True), f"L2 {path}")
            inner = [node for node in ast.walk(tree) if isinstance(node, (ast.Import, ast.ImportFrom))]
            self.assertEqual(len(inner), sum(kinds), f"L2 {path}")

    def test_underscores_are_not_read(self):
        for where, node in nodes(ast.Name):
            if node.id == "_":
                self.assertIsInstance(node.ctx, ast.Store, f"L12 {where}")


class IteratedTest(unittest.TestCase):
    """L23 and L24: views, zips and sets are used on the spot."""

    TAKERS = {"list", "tuple", "dict", "sorted", "sum", "any", "all", "enumerate", "zip", "min", "max"}

    def parents(self):
        for path, tree in trees():
            for node in ast.walk(tree):
                for child in ast.iter_child_nodes(node):
                    yield f"{path}:{getattr(child, 'lineno', 0)}", node, child

    def test_views_and_zips(self):
        for where, node, child in self.parents():
            if not isinstance(child, ast.Call):
                continue
            named = getattr(child.func, "id", None) in ("zip", "enumerate", "reversed", "range")
            viewed = getattr(child.func, "attr", None) in ("items", "keys", "values")
            if named or viewed:
                on_the_spot = isinstance(node, (ast.For, ast.comprehension)) and node.iter is child
                taken = isinstance(node, ast.Call) and getattr(node.func, "id", None) in self.TAKERS
                self.assertTrue(on_the_spot or taken, f"L23 {where}")

    def test_sets(self):
        for where, node, child in self.parents():
            made = isinstance(child, (ast.Set, ast.SetComp)) or (
                isinstance(child, ast.Call) and getattr(child.func, "id", None) in ("set", "frozenset"))
            if made:
                taken = isinstance(node, ast.Call) and getattr(node.func, "id", None) in ("sorted", "len")
                self.assertTrue(taken or isinstance(node, ast.Compare), f"L24 {where}")

    def test_names_and_attributes_grow_by_plain_numbers(self):
        # += walks what it is given if that is a list, and a journal is iterated over as lists are: L5, L23.
        for where, node in nodes(ast.AugAssign):
            self.assertIsInstance(node.value, ast.Constant, f"L23 {where}")
            self.assertIsInstance(node.value.value, int, f"L23 {where}")

    def test_what_a_loop_goes_over_is_not_changed_in_it(self):
        changing = {"append", "clear", "extend", "insert", "pop", "remove", "reverse", "setdefault", "update", "sort"}
        for where, node in nodes(ast.For):
            gone_over = {ast.unparse(node.iter)}
            if isinstance(node.iter, ast.Call):
                gone_over |= {ast.unparse(given) for given in node.iter.args}
                if isinstance(node.iter.func, ast.Attribute):
                    gone_over.add(ast.unparse(node.iter.func.value))
            for row in node.body:
                for part in ast.walk(row):
                    if isinstance(part, ast.Call) and getattr(part.func, "attr", None) in changing:
                        self.assertNotIn(ast.unparse(part.func.value), gone_over, f"L23 {where}")
                    if isinstance(part, ast.Subscript) and not isinstance(part.ctx, ast.Load):
                        self.assertNotIn(ast.unparse(part.value), gone_over, f"L23 {where}")


if __name__ == "__main__":
    unittest.main()

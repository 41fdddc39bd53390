"""Checks, as far as a reader of the code can, that the package keeps to the small subset of Python."""

import ast
import builtins
import os
import re
import unittest

ROOT = os.path.dirname(os.path.dirname(os.path.abspath(__file__)))
PACKAGE = os.path.join(ROOT, "hidhalves")

BUILTINS = set("""len range enumerate zip min max sum abs sorted reversed int str bool bytes list tuple dict set isinstance
ord repr any all divmod Exception ValueError TypeError KeyError IndexError LookupError ZeroDivisionError ArithmeticError
OverflowError RuntimeError NotImplementedError NotImplemented super property staticmethod classmethod""".split())
METHODS = set("""append clear copy count endswith extend find get index insert isalnum isalpha isdigit islower isspace isupper
items join keys ljust lower lstrip partition pop remove replace reverse rfind rjust rpartition rsplit rstrip setdefault split
splitlines startswith strip update upper values zfill bit_length add discard sort""".split())
BARRED_WORDS = set("""type typing typing_extensions enum Enum IntEnum StrEnum Flag IntFlag Generic Protocol ABC ABCMeta
namedtuple NamedTuple TypedDict TYPE_CHECKING abstractmethod register mro elements open input""".split())
# Where what is made anew is taken at once: by a call of one of these, or by a loop.
TAKE_SETS = {"sorted", "len"}
TAKE_GENERATORS = {"list", "tuple", "dict", "sorted", "sum", "min", "max", "any", "all", "join"}
TAKE_PASSING = TAKE_GENERATORS | {"enumerate", "zip", "bytes"}
PASSING = {"zip", "enumerate", "reversed", "range", "items", "keys", "values"}
BARRED_NODES = (ast.Global, ast.AsyncFunctionDef, ast.AsyncFor, ast.AsyncWith, ast.Await, ast.Import, ast.Div)


def package_files():
    return sorted(name for name in os.listdir(PACKAGE) if name != "__pycache__")


def source_of(name):
    with open(os.path.join(PACKAGE, name), encoding="utf-8", newline="") as file:
        return file.read()


def trees():
    return {name: ast.parse(source_of(name)) for name in package_files()}


def imports_in(tree):
    return [node for node in ast.walk(tree) if isinstance(node, ast.ImportFrom)]


def bound_at_top(tree):
    names = []
    for node in tree.body:
        if isinstance(node, (ast.FunctionDef, ast.ClassDef)):
            names.append(node.name)
        elif isinstance(node, ast.Assign):
            names += [target.id for target in node.targets]
    return names


def bound_anywhere(tree):
    names = set()
    for node in ast.walk(tree):
        if isinstance(node, (ast.FunctionDef, ast.ClassDef)):
            names.add(node.name)
        elif isinstance(node, ast.arg):
            names.add(node.arg)
        elif isinstance(node, ast.Name) and isinstance(node.ctx, ast.Store):
            names.add(node.id)
        elif isinstance(node, ast.ImportFrom):
            names.update(alias.asname or alias.name for alias in node.names)
        elif isinstance(node, ast.ExceptHandler) and node.name:
            names.add(node.name)
    return names


def called(node):
    """The name of the function or method that is called, None of what is no call of one."""
    if not isinstance(node, ast.Call):
        return None
    return node.func.id if isinstance(node.func, ast.Name) else getattr(node.func, "attr", None)


def nodes_with_parents(tree):
    return [(child, node) for node in ast.walk(tree) for child in ast.iter_child_nodes(node)]


def is_looped_over(node, parent):
    return isinstance(parent, (ast.For, ast.comprehension)) and parent.iter is node


class Language(unittest.TestCase):
    def test_files(self):
        self.assertIn("__init__.py", package_files())
        for name in package_files():
            self.assertRegex(name, r"^[a-z][a-z0-9]*\.py$|^__init__\.py$")

    def test_characters_and_sizes(self):
        for name in package_files():
            source = source_of(name)
            self.assertRegex(source, r"\A[\n -~]*\Z", name)
            lines = source.split("\n")
            self.assertLessEqual(len(lines), 400, name)
            self.assertLessEqual(max(map(len, lines)), 120, name)
            for node in ast.walk(ast.parse(source)):
                if isinstance(node, ast.FunctionDef):
                    self.assertLessEqual(node.end_lineno - node.lineno + 1, 40, node.name)

    def test_words(self):
        for name in package_files():
            words = set(re.findall(r"[A-Za-z_][A-Za-z_0-9]*", source_of(name)))
            self.assertEqual(words & BARRED_WORDS, set(), name)
            for part in ("dataclass", "overload", "contextmanager"):
                self.assertNotIn(part, source_of(name))

    def test_statements_and_expressions(self):
        for name, tree in trees().items():
            for node in ast.walk(tree):
                self.assertNotIsInstance(node, BARRED_NODES, f"{name} {getattr(node, 'lineno', '')}")
                if isinstance(node, ast.Constant):
                    self.assertNotIsInstance(node.value, (float, complex), name)
                    if isinstance(node.value, str):
                        self.assertNotIn("%", node.value, name)
                if isinstance(node, ast.BinOp) and isinstance(node.op, ast.Pow):
                    self.assertIsInstance(node.right, ast.Constant, name)
                if isinstance(node, ast.Compare) and isinstance(node.ops[0], (ast.Is, ast.IsNot)):
                    self.assertIn(node.comparators[0].value, (None, True, False), name)

    def test_sets_are_not_kept(self):
        """Narrower than the rule, which lets a set be kept in a local name."""
        for name, tree in trees().items():
            for node, parent in nodes_with_parents(tree):
                if isinstance(node, (ast.Set, ast.SetComp)) or called(node) == "set":
                    compared = isinstance(parent, ast.Compare) and node in parent.comparators
                    self.assertTrue(compared or called(parent) in TAKE_SETS, f"{name} {node.lineno}")
                if isinstance(node, ast.Set):
                    self.assertFalse(any(isinstance(part, ast.Starred) for part in node.elts), f"{name} {node.lineno}")

    def test_what_passes_is_taken_at_once(self):
        for name, tree in trees().items():
            for node, parent in nodes_with_parents(tree):
                if isinstance(node, ast.GeneratorExp):
                    self.assertIn(called(parent), TAKE_GENERATORS, f"{name} {node.lineno}")
                if called(node) in PASSING:
                    self.assertTrue(is_looped_over(node, parent) or called(parent) in TAKE_PASSING, f"{name} {node.lineno}")

    def test_no_name_is_a_method_and_an_attribute(self):
        methods, attributes = set(), set()
        for tree in trees().values():
            for node in ast.walk(tree):
                if isinstance(node, ast.ClassDef):
                    methods |= {part.name for part in node.body if isinstance(part, ast.FunctionDef)}
                elif isinstance(node, ast.Attribute) and isinstance(node.ctx, ast.Store):
                    attributes.add(node.attr)
        self.assertEqual(methods & attributes, set())

    def test_module_level(self):
        for name, tree in trees().items():
            for node in tree.body:
                plain = isinstance(node, (ast.FunctionDef, ast.ClassDef, ast.ImportFrom))
                docstring = isinstance(node, ast.Expr) and isinstance(node.value, ast.Constant)
                value = isinstance(node, ast.Assign) and not any(
                    isinstance(part, (ast.Call, ast.ListComp, ast.Lambda)) for part in ast.walk(node))
                self.assertTrue(plain or docstring or value, f"{name} {node.lineno}")

    def test_lists_and_dicts_of_a_module_are_only_read(self):
        for name, tree in trees().items():
            tables = {node.targets[0].id for node in tree.body if isinstance(node, ast.Assign) and isinstance(node.value, (ast.Dict, ast.List))}
            for node, parent in nodes_with_parents(tree):
                if isinstance(node, ast.Name) and node.id in tables and isinstance(node.ctx, ast.Load):
                    indexed = isinstance(parent, ast.Subscript) and parent.value is node and isinstance(parent.ctx, ast.Load)
                    tested = isinstance(parent, ast.Compare) and node in parent.comparators and isinstance(parent.ops[0], (ast.In, ast.NotIn))
                    self.assertTrue(indexed or tested or is_looped_over(node, parent), f"{name} {node.lineno}")

    def test_a_function_of_a_table_has_a_name_when_it_is_called(self):
        for name, tree in trees().items():
            for node in ast.walk(tree):
                if isinstance(node, ast.Call):
                    self.assertIsInstance(node.func, (ast.Name, ast.Attribute), f"{name} {node.lineno}")

    def test_names(self):
        for name, tree in trees().items():
            own = bound_anywhere(tree)
            for word in own:
                self.assertRegex(word, r"^[A-Za-z][A-Za-z0-9_]*$|^__init__$", name)
                self.assertNotIn(word, dir(builtins) if word != "__init__" else BUILTINS, name)
            for node in ast.walk(tree):
                if isinstance(node, ast.Name) and isinstance(node.ctx, ast.Load):
                    self.assertIn(node.id, own | BUILTINS, f"{name} {node.lineno}")

    def test_no_local_name_is_that_of_an_import_or_class(self):
        for name, tree in trees().items():
            taken = {alias.name for node in imports_in(tree) for alias in node.names}
            taken |= {node.name for node in tree.body if isinstance(node, ast.ClassDef)}
            for function in ast.walk(tree):
                if isinstance(function, ast.FunctionDef):
                    self.assertEqual((bound_anywhere(function) - {function.name}) & taken, set(), name)

    def test_methods(self):
        every = trees()
        own = {node.name for tree in every.values() for node in ast.walk(tree) if isinstance(node, ast.FunctionDef)}
        for name, tree in every.items():
            for node in ast.walk(tree):
                if isinstance(node, ast.Call) and isinstance(node.func, ast.Attribute):
                    self.assertIn(node.func.attr, METHODS | own, f"{name} {node.lineno}")

    def test_imports_name_the_file_that_defines_and_go_in_no_circle(self):
        every = trees()
        needs = {}
        for name, tree in every.items():
            needs[name] = set()
            for node in imports_in(tree):
                self.assertEqual(node.level, 0)
                self.assertRegex(node.module, r"^hidhalves\.[a-z]+$")
                source = node.module.split(".")[1] + ".py"
                needs[name].add(source)
                for alias in node.names:
                    self.assertIsNone(alias.asname)
                    self.assertIn(alias.name, bound_at_top(every[source]), f"{name} {node.lineno}")
        while needs:
            free = [name for name in needs if not needs[name]]
            self.assertTrue(free, f"circle among {sorted(needs)}")
            needs = {name: needs[name] - set(free) for name in needs if name not in free}

    def test_each_name_is_bound_once_at_module_level(self):
        for name, tree in trees().items():
            bound = bound_at_top(tree) + [alias.name for node in imports_in(tree) for alias in node.names]
            self.assertEqual(len(bound), len(set(bound)), name)


if __name__ == "__main__":
    unittest.main()

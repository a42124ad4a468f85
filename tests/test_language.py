"""The rules of the language subset that a program can check; the numbers are those of the rules."""

import ast
import builtins
import re
import unittest
from pathlib import Path

PACKAGE = Path(__file__).resolve().parent.parent / "rootbags"
BUILTINS = set("""len range enumerate zip min max sum abs sorted reversed int str bool bytes list tuple dict set
    frozenset isinstance ord repr any all divmod iter next property staticmethod classmethod super
    Exception ValueError TypeError KeyError IndexError LookupError ZeroDivisionError ArithmeticError
    OverflowError RuntimeError NotImplementedError AttributeError StopIteration NotImplemented""".split())
METHODS = set("""append clear copy count endswith extend find get index insert isalnum isalpha isdigit islower
    isspace isupper items join keys ljust lower lstrip partition pop remove replace reverse rfind rjust
    rpartition rsplit rstrip setdefault split splitlines startswith strip update upper values zfill
    bit_length title capitalize swapcase casefold center expandtabs removeprefix removesuffix rindex isascii
    isdecimal isnumeric istitle isidentifier isprintable translate maketrans sort add discard""".split())
DOUBLE = set("""init eq repr str len enter exit call iter lt le gt ge ne add sub mul floordiv mod pow and or xor
    lshift rshift neg pos invert abs bool contains getitem setitem""".split())
BARRED_NAMES = set("""register mro elements open input law version_info with_traceback add_note attrgetter
    breakpoint builtins compile copyright credits delattr dir eval exec exit gc getattr globals hasattr help id
    importlib license locals methodcaller os quit setattr type vars sys""".split())
BARRED_WORDS = re.compile(r"\b(type|typing|typing_extensions|enum|Enum|IntEnum|StrEnum|Flag|IntFlag|Generic|Protocol"
                          r"|ABC|ABCMeta|namedtuple|NamedTuple|TypedDict|TYPE_CHECKING|abstractmethod)\b"
                          r"|dataclass|overload|contextmanager")
CHANGING = set("""append clear extend insert pop remove reverse setdefault update sort add discard""".split())
PURE_DOUBLE = DOUBLE - {"init", "enter", "exit", "call", "iter", "setitem"}
TWO_OPERANDS = set("eq lt le gt ge ne add sub mul floordiv mod pow and or xor lshift rshift".split())
LAZY = set("zip enumerate reversed range items keys values walk successive_powers".split())
ITERATING = set("list tuple dict sorted sum any all enumerate zip".split())
BARRED_NODES = (ast.Global, ast.AsyncFunctionDef, ast.AsyncFor, ast.AsyncWith, ast.Await, ast.Import, ast.Div,
                ast.MatMult)


def files():
    return sorted(path for path in PACKAGE.iterdir() if path.name != "__pycache__")


def tree_of(path):
    return ast.parse(path.read_text(encoding="utf-8"))


def bound_at_module_level(tree):
    """The names that the statements of a file bind, in order."""
    names = []
    for row in tree.body:
        if isinstance(row, (ast.FunctionDef, ast.ClassDef)):
            names.append(row.name)
        elif isinstance(row, ast.ImportFrom):
            names.extend(alias.asname or alias.name for alias in row.names)
        elif isinstance(row, ast.Assign):
            names.extend(target.id for target in row.targets)
    return names


def bound_names(tree):
    """All names that a file binds anywhere."""
    names = set()
    for node in ast.walk(tree):
        if isinstance(node, (ast.FunctionDef, ast.ClassDef)):
            names.add(node.name)
        elif isinstance(node, ast.arg):
            names.add(node.arg)
        elif isinstance(node, ast.Name) and not isinstance(node.ctx, ast.Load):
            names.add(node.id)
        elif isinstance(node, ast.alias):
            names.add(node.asname or node.name)
        elif isinstance(node, ast.ExceptHandler) and node.name:
            names.add(node.name)
    return names


def functions_by_name():
    """All functions and methods of the package by their names; a class stands for its __init__."""
    named = {}
    for path in files():
        for node in ast.walk(tree_of(path)):
            if isinstance(node, ast.FunctionDef) and not is_setter(node):
                named.setdefault(node.name, []).append((path.name, node))
            elif isinstance(node, ast.ClassDef):
                for row in node.body:
                    if isinstance(row, ast.FunctionDef) and row.name == "__init__":
                        named.setdefault(node.name, []).append((path.name, row))
    return named


def is_property(node):
    return any(isinstance(row, ast.Name) and row.id == "property" for row in node.decorator_list)


def is_setter(node):
    return any(isinstance(row, ast.Attribute) and row.attr == "setter" for row in node.decorator_list)


def names_used(node):
    """The names of functions, classes, methods and properties that a function may call."""
    names = set()
    for row in ast.walk(node):
        if isinstance(row, ast.Call) and isinstance(row.func, ast.Name):
            names.add(row.func.id)
        elif isinstance(row, ast.Attribute):
            names.add(row.attr)
    return names


def reached_by_operators():
    """The functions that must change nothing: operators, properties, __eq__ and the like, and all that they call."""
    named = functions_by_name()
    waiting = [name for name in named if name.startswith("__") and name[2:-2] in PURE_DOUBLE]
    waiting += [name for name, rows in named.items() if any(is_property(node) for _, node in rows)]
    done = {}
    while waiting:
        name = waiting.pop()
        if name not in done and name in named:
            done[name] = named[name]
            for _, node in named[name]:
                waiting.extend(names_used(node))
    return [row for rows in done.values() for row in rows]


def is_own_list(value):
    """Whether a value is a list or dict that is created on the spot."""
    called = isinstance(value, ast.Call) and isinstance(value.func, ast.Name)
    return isinstance(value, (ast.List, ast.ListComp)) or (called and value.func.id in ("list", "dict", "sorted"))


def own_lists(node):
    """The local names of a function that are assigned nothing but lists that it creates."""
    values = {}
    for row in ast.walk(node):
        if isinstance(row, ast.Assign):
            for target in row.targets:
                if isinstance(target, ast.Name):
                    values.setdefault(target.id, []).append(row.value)
        elif isinstance(row, (ast.For, ast.comprehension)):
            for name in ast.walk(row.target):
                if isinstance(name, ast.Name):
                    values.setdefault(name.id, []).append(None)
    return {name for name, found in values.items() if all(is_own_list(value) for value in found)}


class Language(unittest.TestCase):
    def nodes(self, *kinds):
        for path in files():
            for node in ast.walk(tree_of(path)):
                if isinstance(node, kinds):
                    yield f"{path.name}:{getattr(node, 'lineno', 0)}", node

    def test_l1_l14_files(self):
        for path in files():
            self.assertTrue(path.is_file() and re.fullmatch(r"[a-z0-9_]+\.py", path.name), path)
            text = path.read_text(encoding="utf-8")
            self.assertRegex(text, r"\A[ -~\n]*\Z", path)
            self.assertIsNone(BARRED_WORDS.search(text), path)

    def test_l10_size(self):
        for path in files():
            lines = path.read_text(encoding="utf-8").split("\n")
            self.assertLessEqual(len(lines) - 1, 399, path)
            self.assertLessEqual(max(len(line) for line in lines), 120, path)
        for place, node in self.nodes(ast.FunctionDef):
            self.assertLessEqual(node.end_lineno - node.lineno + 1, 40, place)

    def test_l2_l16_imports(self):
        needs = {}
        for path in files():
            needs[path.stem] = []
            for row in tree_of(path).body:
                if isinstance(row, ast.ImportFrom) and row.module != "__future__":
                    self.assertRegex(row.module, r"\Arootbags\.[a-z0-9_]+\Z", path)
                    source = row.module.split(".")[1]
                    needs[path.stem].append(source)
                    defined = bound_at_module_level(tree_of(PACKAGE / f"{source}.py"))
                    self.assertLessEqual({alias.name for alias in row.names}, set(defined), path)
        done = set()
        while len(done) < len(needs):
            ready = {name for name in needs if name not in done and set(needs[name]) <= done}
            self.assertTrue(ready, "files import from each other")
            done |= ready

    def test_l3_l15_module_level(self):
        for path in files():
            tree = tree_of(path)
            for row in tree.body:
                plain = isinstance(row, (ast.ImportFrom, ast.FunctionDef, ast.ClassDef))
                named = isinstance(row, ast.Assign) and len(row.targets) == 1 and isinstance(row.targets[0], ast.Name)
                text = isinstance(row, ast.Expr) and isinstance(row.value, ast.Constant)
                self.assertTrue(plain or named or text, (path, row.lineno))
            names = bound_at_module_level(tree)
            self.assertEqual(len(names), len(set(names)), path)

    def test_l15_no_local_name_of_a_class_or_an_import(self):
        for path in files():
            tree = tree_of(path)
            outer = {row.name for row in tree.body if isinstance(row, ast.ClassDef)}
            outer |= {alias.name for row in tree.body if isinstance(row, ast.ImportFrom) for alias in row.names}
            for node in ast.walk(tree):
                if isinstance(node, ast.arg):
                    self.assertNotIn(node.arg, outer, (path, node.lineno))
                if isinstance(node, ast.Name) and isinstance(node.ctx, ast.Store):
                    self.assertNotIn(node.id, outer, (path, node.lineno))

    def test_l6_l7_statements_and_values(self):
        for place, node in self.nodes(*BARRED_NODES):
            self.fail(f"{place}: {node}")
        for place, node in self.nodes(ast.Constant):
            self.assertNotIsInstance(node.value, (float, complex), place)
            if isinstance(node.value, str):
                self.assertNotIn(chr(37), node.value, place)
        for place, node in self.nodes(ast.ExceptHandler):
            self.assertIsNotNone(node.type, place)

    def test_l8_l12_l15_l17_names(self):
        for path in files():
            tree = tree_of(path)
            bound = bound_names(tree)
            methods = {row.name for node in ast.walk(tree) if isinstance(node, ast.ClassDef)
                       for row in node.body if isinstance(row, ast.FunctionDef)}
            for name in bound:
                double = re.fullmatch(r"__[ir]?([a-z]+)__", name)
                self.assertTrue(name[0] != "_" or (name in methods and double), (path, name))
                self.assertNotIn(name, BARRED_NAMES, path)
                if name not in methods:
                    self.assertFalse(hasattr(builtins, name), (path, name))
            for name in methods:
                if name.startswith("__"):
                    self.assertTrue(name[2:-2] in DOUBLE or name[3:-2] in DOUBLE, (path, name))
            for node in ast.walk(tree):
                if isinstance(node, ast.Name) and isinstance(node.ctx, ast.Load) and node.id not in bound:
                    self.assertIn(node.id, BUILTINS, (path, node.lineno))

    def test_l20_is(self):
        for place, node in self.nodes(ast.Compare):
            for sign, right in zip(node.ops, node.comparators):
                if isinstance(sign, (ast.Is, ast.IsNot)):
                    self.assertTrue(isinstance(right, ast.Constant) and right.value in (None, True, False), place)

    def test_l25_methods(self):
        own = {node.name for _, node in self.nodes(ast.FunctionDef)}
        for place, node in self.nodes(ast.Call):
            if isinstance(node.func, ast.Attribute):
                self.assertIn(node.func.attr, METHODS | own, place)

    def test_l27_powers(self):
        for place, node in self.nodes(ast.BinOp):
            if isinstance(node.op, ast.Pow):
                self.assertTrue(isinstance(node.right, ast.Constant) and 0 <= node.right.value <= 64, place)

    def test_l5_operators_change_nothing(self):
        reached = reached_by_operators()
        self.assertGreater(len(reached), 30)
        for file, node in reached:
            place = (file, node.name)
            own = own_lists(node)
            parameters = {argument.arg for argument in ast.walk(node) if isinstance(argument, ast.arg)}
            for row in ast.walk(node):
                self.assertNotIsInstance(row, (ast.AugAssign, ast.Delete, ast.Nonlocal, ast.NamedExpr), place)
                if isinstance(row, ast.Attribute) and not isinstance(row.ctx, ast.Load):
                    self.assertEqual((node.name, row.value.id), ("__init__", "self"), place)
                if isinstance(row, ast.Subscript) and not isinstance(row.ctx, ast.Load):
                    self.assertIn(row.value.id, own, place)
                if isinstance(row, ast.Call) and isinstance(row.func, ast.Attribute) and row.func.attr in CHANGING:
                    self.assertIn(row.func.value.id, own, place)
                if isinstance(row, ast.Call):
                    self.assertIsInstance(row.func, (ast.Name, ast.Attribute), place)
                    if isinstance(row.func, ast.Name):
                        self.assertNotIn(row.func.id, parameters - {"cls"}, place)

    def test_l5_l28_double_underscore_methods(self):
        for place, kind in self.nodes(ast.ClassDef):
            for node in kind.body:
                if not (isinstance(node, ast.FunctionDef) and node.name.startswith("__")):
                    continue
                names = [argument.arg for argument in node.args.args]
                if node.name[2:-2] in TWO_OPERANDS:
                    self.assertEqual(names, ["self", "other"], place)
                if node.name in ("__len__", "__repr__", "__str__", "__neg__", "__bool__"):
                    self.assertEqual(names, ["self"], place)
                returned = [row.value for row in ast.walk(node) if isinstance(row, ast.Return)]
                if node.name == "__len__":
                    self.assertTrue(all(isinstance(value, ast.Call) and value.func.id == "len" for value in returned))
                if node.name in ("__repr__", "__str__"):
                    self.assertTrue(all(isinstance(value, ast.JoinedStr) for value in returned), place)
                if node.name == "__init__":
                    self.assertEqual(returned, [], place)

    def test_l5_decorators_and_bases(self):
        for place, node in self.nodes(ast.FunctionDef):
            for row in node.decorator_list:
                word = ast.unparse(row).split(".")[-1]
                self.assertIn(word, ("property", "classmethod", "staticmethod", "setter"), place)
            self.assertEqual(node.args.posonlyargs, [], place)
        for place, node in self.nodes(ast.ClassDef):
            self.assertEqual((node.decorator_list, node.keywords), ([], []), place)

    def test_l7_no_generator_expressions(self):
        # Where a class has __eq__, all functions that would take one take a list.
        for place, node in self.nodes(ast.GeneratorExp):
            self.fail(place)

    def test_l18_no_name_is_a_method_and_an_attribute(self):
        methods, attributes, read = set(), set(), set()
        for _, kind in self.nodes(ast.ClassDef):
            methods |= {row.name for row in kind.body if isinstance(row, ast.FunctionDef)}
            attributes |= {target.id for row in kind.body if isinstance(row, ast.Assign) for target in row.targets}
        for _, node in self.nodes(ast.Attribute):
            (read if isinstance(node.ctx, ast.Load) else attributes).add(node.attr)
        self.assertEqual(methods & attributes, set())
        self.assertLessEqual(read, methods | attributes | METHODS | {"setter"})

    def test_l22_keywords_of_builtins(self):
        for place, node in self.nodes(ast.Call):
            if isinstance(node.func, ast.Name) and hasattr(builtins, node.func.id):
                self.assertLessEqual({row.arg for row in node.keywords}, {"key", "reverse", "default", "start"}, place)

    def test_l7_calls_with_stars(self):
        for place, node in self.nodes(ast.Call):
            starred = [row.value for row in node.args if isinstance(row, ast.Starred)]
            starred += [row.value for row in node.keywords if row.arg is None]
            for row in starred + (node.args if starred else []):
                plain = row.value if isinstance(row, ast.Starred) else row
                self.assertIsInstance(plain, (ast.Name, ast.Attribute, ast.Constant), place)

    def test_l19_only_own_errors_are_caught(self):
        own = {row.name for row in tree_of(PACKAGE / "errors.py").body if isinstance(row, ast.ClassDef)}
        for place, node in self.nodes(ast.ExceptHandler):
            caught = node.type.elts if isinstance(node.type, ast.Tuple) else [node.type]
            self.assertLessEqual({row.id for row in caught}, own, place)
        for place, node in self.nodes(ast.Raise):
            if node.exc is not None:
                self.assertIsInstance(node.exc, ast.Call, place)
                self.assertIn(node.exc.func.id, own, place)

    def test_l26_own_names_are_not_those_of_builtin_values(self):
        kinds = ("", b"", 1, [], (), {}, {1})
        taken = {name for kind in kinds for name in dir(kind) if not name.startswith("__")}
        for place, kind in self.nodes(ast.ClassDef):
            names = {row.name for row in kind.body if isinstance(row, ast.FunctionDef)}
            names |= {row.attr for row in ast.walk(kind) if isinstance(row, ast.Attribute) and
                      not isinstance(row.ctx, ast.Load)}
            self.assertEqual(names & taken, set(), place)

    def test_l23_iterated_at_once(self):
        for path in files():
            tree = tree_of(path)
            fine = set()
            for node in ast.walk(tree):
                if isinstance(node, (ast.For, ast.comprehension)):
                    fine.add(id(node.iter))
                elif isinstance(node, ast.Call) and isinstance(node.func, ast.Name) and node.func.id in ITERATING:
                    fine.update(id(row) for row in node.args)
            for node in ast.walk(tree):
                if isinstance(node, ast.Call):
                    word = node.func.id if isinstance(node.func, ast.Name) else getattr(node.func, "attr", "")
                    if word in LAZY:
                        self.assertIn(id(node), fine, (path, node.lineno))

    def test_l23_generators_have_names_of_their_own(self):
        named = functions_by_name()
        for place, node in self.nodes(ast.FunctionDef):
            if any(isinstance(row, (ast.Yield, ast.YieldFrom)) for row in ast.walk(node)):
                self.assertEqual(len(named[node.name]), 1, place)

    def test_l23_what_a_loop_iterates_over_is_not_changed(self):
        for place, node in self.nodes(ast.For):
            iterated = {row.id for row in ast.walk(node.iter) if isinstance(row, ast.Name)}
            for row in [part for line in node.body for part in ast.walk(line)]:
                if isinstance(row, ast.Subscript) and not isinstance(row.ctx, ast.Load):
                    self.assertNotIn(row.value.id, iterated, place)
                if isinstance(row, ast.Call) and isinstance(row.func, ast.Attribute) and row.func.attr in CHANGING:
                    self.assertNotIn(row.func.value.id, iterated, place)


if __name__ == "__main__":
    unittest.main()

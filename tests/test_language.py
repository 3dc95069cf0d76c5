"""The rules of LANGUAGE.md that can be read off the syntax of the package's files."""

import ast
import builtins
import re
import unittest
import warnings
from pathlib import Path

PACKAGE = Path(__file__).resolve().parent.parent / "playhall"
FILES = sorted(PACKAGE.glob("*.py"))

LIBRARY = {
    "heapq": {"heappush", "heappop", "heapify", "heapreplace", "heappushpop"},
    "math": {"gcd", "lcm", "isqrt", "comb", "perm", "factorial"},
    "itertools": {"product", "combinations", "permutations"},
}
BUILTINS = set(
    "len range enumerate zip min max sum abs sorted reversed int str bool bytes list tuple dict set frozenset isinstance "
    "ord repr any all divmod Exception ValueError TypeError KeyError IndexError LookupError ZeroDivisionError "
    "ArithmeticError OverflowError RuntimeError NotImplementedError AttributeError StopIteration NotImplemented iter next "
    "map property staticmethod classmethod super".split()
)
METHODS = set(
    "append clear copy count endswith extend find get index insert isalnum isalpha isdigit islower isspace isupper items "
    "join keys ljust lower lstrip partition pop remove replace reverse rfind rjust rpartition rsplit rstrip setdefault "
    "split splitlines startswith strip update upper values zfill bit_length title capitalize swapcase casefold center "
    "expandtabs removeprefix removesuffix rindex isascii isdecimal isnumeric istitle isidentifier isprintable "
    "add discard __init__".split()
)
SPECIAL = set(
    "__init__ __eq__ __repr__ __str__ __len__ __enter__ __exit__ __call__ __iter__ __lt__ __le__ __gt__ __ge__ __ne__ "
    "__add__ __sub__ __mul__ __floordiv__ __mod__ __pow__ __and__ __or__ __xor__ __lshift__ __rshift__ __neg__ __pos__ "
    "__invert__ __abs__ __bool__ __contains__ __getitem__ __setitem__".split()
)
STATEMENTS = (
    ast.Module, ast.FunctionDef, ast.ClassDef, ast.Assign, ast.AugAssign, ast.If, ast.While, ast.For, ast.Return, ast.Break,
    ast.Continue, ast.Pass, ast.Raise, ast.Assert, ast.Delete, ast.With, ast.Try, ast.Expr, ast.ImportFrom,
)
WORDS = re.compile(r"\b(type|typing|enum|Enum|Flag|Generic|Protocol|ABC|namedtuple|NamedTuple|TypedDict|abstractmethod|"
                   r"register|mro|elements|open|input|law)\b|dataclass|overload|contextmanager|_wall")
NOT_AS_NAMES = re.compile(r"_(cold|tuplegetter|outside|record|written_out|member_names)[0-9_]*|"
                          r"_(pe|dcw|enum|cm|twin_re|lay|law|stub)_.*|_sre.*|eval|exec|exit|id|dir|vars|help|compile|os|sys|gc")


def nodes_of(path, *kinds):
    return [node for node in ast.walk(ast.parse(path.read_text("utf-8"))) if isinstance(node, kinds)]


def bound_names(path):
    """All names of variables, parameters, functions, classes and attributes that a file binds."""
    found = [node.name for node in nodes_of(path, ast.FunctionDef, ast.ClassDef)]
    found += [node.arg for node in nodes_of(path, ast.arg)]
    found += [node.id for node in nodes_of(path, ast.Name) if not isinstance(node.ctx, ast.Load)]
    found += [node.attr for node in nodes_of(path, ast.Attribute) if not isinstance(node.ctx, ast.Load)]
    return found


ITERATING = ("list", "tuple", "dict", "sorted", "sum", "min", "max", "any", "all", "enumerate", "zip")


def yields(node):
    return any(isinstance(part, (ast.Yield, ast.YieldFrom)) for part in ast.walk(node))


def parents_of(path):
    """A dict from each node of a file to the node in which it stands."""
    above = {}
    for node in ast.walk(ast.parse(path.read_text("utf-8"))):
        for part in ast.iter_child_nodes(node):
            above[part] = node
    return above


def is_iterated(call, above, calls):
    """Whether a call stands behind the `in` of a loop or comprehension, or in a call that iterates it."""
    part = above[call]
    if isinstance(part, (ast.For, ast.comprehension)):
        return part.iter is call
    if isinstance(part, ast.Call) and isinstance(part.func, ast.Name):
        return part.func.id in calls and call in part.args
    return isinstance(part, ast.YieldFrom)


class LanguageTest(unittest.TestCase):
    def test_files(self):
        names = [path.name for path in PACKAGE.iterdir() if path.name != "__pycache__"]
        self.assertIn("__init__.py", names)
        for name in names:
            self.assertRegex(name, r"^[a-z0-9_]+\.py$")

    def test_sizes_and_characters(self):
        for path in FILES:
            text = path.read_text("utf-8")
            self.assertRegex(text, r"\A[ -~\n]*\Z")
            lines = text.split("\n")
            self.assertLessEqual(len(lines), 399)
            self.assertLessEqual(max(len(line) for line in lines), 120)
            for node in nodes_of(path, ast.FunctionDef):
                self.assertLessEqual(node.end_lineno - node.lineno + 1, 40, node.name)

    def test_no_warnings(self):
        for path in FILES:
            with warnings.catch_warnings():
                warnings.simplefilter("error")
                compile(path.read_text("utf-8"), path.name, "exec")

    def test_imports(self):
        edges = {}
        for path in FILES:
            self.assertEqual(nodes_of(path, ast.Import), [])
            edges[path.stem] = []
            for node in nodes_of(path, ast.ImportFrom):
                names = {alias.name for alias in node.names}
                self.assertEqual((node.level, [alias.asname for alias in node.names if alias.asname]), (0, []))
                if node.module in LIBRARY:
                    self.assertLessEqual(names, LIBRARY[node.module])
                    continue
                package, module = node.module.split(".")
                self.assertEqual(package, "playhall")
                edges[path.stem].append(module)
                body = ast.parse((PACKAGE / f"{module}.py").read_text("utf-8")).body
                defined = {part.name for part in body if isinstance(part, (ast.FunctionDef, ast.ClassDef))}
                defined |= {part.targets[0].id for part in body if isinstance(part, ast.Assign)}
                self.assertLessEqual(names, defined)
        while edges:
            last = [name for name in edges if not any(other in edges for other in edges[name])]
            self.assertNotEqual(last, [], "files import from each other")
            for name in last:
                del edges[name]

    def test_statements_and_expressions(self):
        for path in FILES:
            for node in nodes_of(path, ast.stmt):
                self.assertIsInstance(node, STATEMENTS, ast.dump(node))
            self.assertEqual(nodes_of(path, ast.GeneratorExp, ast.Div, ast.NamedExpr, ast.Await), [])
            for node in nodes_of(path, ast.Constant):
                self.assertNotIsInstance(node.value, (float, complex, bytes))
                if isinstance(node.value, str):
                    self.assertNotIn("%", node.value)
            for node in nodes_of(path, ast.Compare):
                for operator, right in zip(node.ops, node.comparators):
                    if isinstance(operator, (ast.Is, ast.IsNot)):
                        self.assertIsInstance(right, ast.Constant)
            for node in nodes_of(path, ast.BinOp):
                self.assertFalse(isinstance(node.op, ast.Pow) and not isinstance(node.right, ast.Constant))

    def test_lambdas_with_equal_parameters_stand_on_lines_of_their_own(self):
        for path in FILES:
            places = [(node.lineno, ast.unparse(node.args)) for node in nodes_of(path, ast.Lambda)]
            self.assertEqual(len(set(places)), len(places), path.name)

    def test_decorators_and_special_methods(self):
        for path in FILES:
            for node in nodes_of(path, ast.FunctionDef, ast.ClassDef):
                marks = [mark.id for mark in node.decorator_list]
                self.assertIn(marks, [[], ["property"], ["staticmethod"], ["classmethod"]])
                self.assertTrue(not node.name.startswith("__") or node.name in SPECIAL, node.name)

    def test_builtins(self):
        for path in FILES:
            for node in nodes_of(path, ast.Name):
                if isinstance(node.ctx, ast.Load) and hasattr(builtins, node.id):
                    self.assertIn(node.id, BUILTINS)

    def test_names(self):
        for path in FILES:
            self.assertIsNone(WORDS.search(path.read_text("utf-8")))
            imported = {alias.name for node in nodes_of(path, ast.ImportFrom) for alias in node.names}
            classes = {node.name for node in nodes_of(path, ast.ClassDef)}
            local = {node.id for node in nodes_of(path, ast.Name) if not isinstance(node.ctx, ast.Load)}
            local |= {node.arg for node in nodes_of(path, ast.arg)}
            self.assertEqual(local & (imported | classes), set())
            for name in bound_names(path):
                self.assertIsNone(NOT_AS_NAMES.fullmatch(name), name)
                self.assertFalse(name in local and hasattr(builtins, name), name)
            for node in nodes_of(path, ast.Name):
                self.assertFalse(node.id == "_" and isinstance(node.ctx, ast.Load))

    def test_methods(self):
        own = {node.name for path in FILES for node in nodes_of(path, ast.FunctionDef)}
        stored = {node.attr for path in FILES for node in nodes_of(path, ast.Attribute) if not isinstance(node.ctx, ast.Load)}
        for path in FILES:
            for node in nodes_of(path, ast.Call):
                if isinstance(node.func, ast.Attribute):
                    self.assertIn(node.func.attr, METHODS | own)
            for node in nodes_of(path, ast.Attribute):
                self.assertIn(node.attr, METHODS | own | stored)

    def test_attributes_methods_properties_and_generators_have_names_of_their_own(self):
        methods, properties, generators, functions, stored = [], [], [], [], []
        for path in FILES:
            for node in nodes_of(path, ast.ClassDef):
                for part in node.body:
                    if isinstance(part, ast.FunctionDef) and not part.name.startswith("__"):
                        (properties if part.decorator_list and part.decorator_list[0].id == "property" else methods).append(
                            part.name)
            stored += [node.attr for node in nodes_of(path, ast.Attribute) if not isinstance(node.ctx, ast.Load)]
            for node in nodes_of(path, ast.FunctionDef):
                functions.append(node.name)
                if any(isinstance(part, (ast.Yield, ast.YieldFrom)) for part in ast.walk(node)):
                    generators.append(node.name)
        self.assertEqual(set(methods) & set(properties), set())
        self.assertEqual((set(methods) | set(properties)) & set(stored), set())
        for name in generators:
            self.assertEqual(functions.count(name), 1, name)

    def test_generators_are_iterated_at_once(self):
        generators = {node.name for path in FILES for node in nodes_of(path, ast.FunctionDef) if yields(node)}
        for path in FILES:
            above = parents_of(path)
            for node in above:
                if not isinstance(node, (ast.Name, ast.Attribute)):
                    continue
                name = node.id if isinstance(node, ast.Name) else node.attr
                if name in generators:
                    call = above[node]
                    self.assertIsInstance(call, ast.Call, f"{path.name}:{node.lineno}")
                    self.assertIs(call.func, node)
                    self.assertTrue(is_iterated(call, above, ITERATING), f"{path.name}:{node.lineno}")
            for node in nodes_of(path, ast.FunctionDef):
                if yields(node):
                    self.assertEqual(node.decorator_list, [])
                    self.assertEqual([part for part in ast.walk(node) if isinstance(part, (ast.Try, ast.With))], [])
                    self.assertTrue(all(part.value is None for part in ast.walk(node) if isinstance(part, ast.Return)))

    def test_views_are_iterated_on_the_spot(self):
        for path in FILES:
            above = parents_of(path)
            for node in [part for part in above if isinstance(part, ast.Call)]:
                named = isinstance(node.func, ast.Name) and node.func.id in ("zip", "enumerate", "reversed", "range")
                viewed = isinstance(node.func, ast.Attribute) and node.func.attr in ("items", "keys", "values")
                if named or viewed:
                    inner = named and node.func.id == "range" and is_iterated(node, above, ("reversed",))
                    self.assertTrue(inner or is_iterated(node, above, ITERATING), f"{path.name}:{node.lineno}")

    def test_sets_stand_where_they_may(self):
        for path in FILES:
            above = parents_of(path)
            for node in [part for part in above if isinstance(part, (ast.Call, ast.Set, ast.SetComp))]:
                if not isinstance(node, ast.Call) or isinstance(node.func, ast.Name) and node.func.id in ("set", "frozenset"):
                    part = above[node]
                    sized = isinstance(part, ast.Call) and isinstance(part.func, ast.Name) and part.func.id in ("sorted", "len")
                    self.assertTrue(sized or isinstance(part, ast.Compare), f"{path.name}:{node.lineno}")
            self.assertNotIn("frozenset", path.read_text("utf-8"))

    def test_exits_only_assign(self):
        for path in FILES:
            for node in nodes_of(path, ast.FunctionDef):
                if node.name == "__exit__":
                    for part in ast.walk(node):
                        self.assertNotIsInstance(part, (ast.Call, ast.Subscript, ast.Raise, ast.For, ast.While, ast.Try))
                        if isinstance(part, ast.Assign):
                            self.assertIsInstance(part.targets[0], ast.Attribute)
                            self.assertIsInstance(part.value, (ast.Attribute, ast.Constant))
                        if isinstance(part, ast.If):
                            self.assertIn(ast.unparse(part.test), ("kind is None", "kind is not None"))

    def test_keywords_of_builtins(self):
        allowed = {"sorted": {"key", "reverse"}, "min": {"key", "default"}, "max": {"key", "default"}, "sum": {"start"},
                   "enumerate": {"start"}, "zip": {"strict"}}
        for path in FILES:
            for node in nodes_of(path, ast.Call):
                if isinstance(node.func, ast.Name) and hasattr(builtins, node.func.id):
                    self.assertLessEqual({part.arg for part in node.keywords}, allowed.get(node.func.id, set()))

    def test_handlers_name_own_errors_or_key_error(self):
        errors = {node.name for path in FILES for node in nodes_of(path, ast.ClassDef) if node.bases}
        for path in FILES:
            for node in nodes_of(path, ast.ExceptHandler):
                self.assertIsInstance(node.type, ast.Name)
                self.assertIn(node.type.id, errors | {"KeyError"})
            for node in nodes_of(path, ast.Raise):
                self.assertTrue(node.exc is None or isinstance(node.exc, ast.Call))


if __name__ == "__main__":
    unittest.main()

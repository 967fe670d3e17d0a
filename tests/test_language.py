"""The rules of the language subset that can be seen in the code, asked of every file of the package."""

import ast
import builtins
import functools
import os
import unittest

ROOT = os.path.dirname(os.path.dirname(os.path.abspath(__file__)))
PACKAGE = os.path.join(ROOT, "firmstops")

LIBRARY = {
    "heapq": {"heappush", "heappop", "heapify", "heapreplace", "heappushpop"},
    "math": {"gcd", "lcm", "isqrt", "comb", "perm", "factorial"},
    "itertools": {"product", "combinations", "permutations"},
}
BUILTINS = set(
    "len range enumerate zip min max sum abs sorted reversed int str bool bytes list tuple dict set frozenset "
    "isinstance ord repr any all divmod Exception ValueError TypeError KeyError IndexError LookupError "
    "ZeroDivisionError ArithmeticError OverflowError RuntimeError NotImplementedError AttributeError "
    "StopIteration NotImplemented iter next map super property staticmethod classmethod".split()
)
METHODS = set(
    "append clear copy count endswith extend find get index insert isalnum isalpha isdigit islower isspace "
    "isupper items join keys ljust lower lstrip partition pop remove replace reverse rfind rjust rpartition "
    "rsplit rstrip setdefault split splitlines startswith strip update upper values zfill bit_length title "
    "capitalize swapcase casefold center expandtabs removeprefix removesuffix rindex isascii isdecimal "
    "isnumeric istitle isidentifier isprintable translate".split()
)
BARRED_NAMES = set(
    "register mro elements open input law version_info with_traceback add_note attrgetter breakpoint builtins "
    "compile copyright credits delattr dir eval exec exit gc getattr globals hasattr help id importlib license "
    "locals methodcaller os quit setattr type vars sys".split()
)
BARRED_WORDS = set(
    "type typing typing_extensions enum Enum IntEnum StrEnum Flag IntFlag Generic Protocol ABC ABCMeta "
    "namedtuple NamedTuple TypedDict TYPE_CHECKING abstractmethod dataclass overload contextmanager".split()
)
DUNDERS = set(
    "__init__ __eq__ __repr__ __str__ __len__ __enter__ __exit__ __call__ __iter__ __contains__".split()
)
DECORATORS = {"property", "staticmethod", "classmethod"}
ON_THE_SPOT = {"zip", "enumerate", "reversed", "range"}
EATERS = {"list", "tuple", "dict", "sorted", "sum", "any", "all", "enumerate", "zip", "min", "max", "len",
          "combinations", "reversed"}
STATEMENTS = (
    ast.Assign, ast.AugAssign, ast.If, ast.While, ast.For, ast.Return, ast.Break, ast.Continue, ast.Pass,
    ast.Raise, ast.Assert, ast.Delete, ast.Nonlocal, ast.Match, ast.With, ast.Try, ast.Expr, ast.FunctionDef,
    ast.ClassDef, ast.ImportFrom,
)


def files():
    return sorted(name for name in os.listdir(PACKAGE) if name != "__pycache__")


def source(name):
    with open(os.path.join(PACKAGE, name), encoding="utf-8", newline="") as stream:
        return stream.read()


@functools.lru_cache(maxsize=None)
def trees():
    return [(name, ast.parse(source(name))) for name in files()]


def functions(tree):
    return [node for node in ast.walk(tree) if isinstance(node, ast.FunctionDef)]


def classes(tree):
    return [node for node in ast.walk(tree) if isinstance(node, ast.ClassDef)]


def parameters(function):
    told = function.args
    some = told.posonlyargs + told.args + told.kwonlyargs
    return [one.arg for one in some + [told.vararg, told.kwarg] if one is not None]


def locals_of(function):
    names = set(parameters(function))
    for node in ast.walk(function):
        if isinstance(node, ast.Name) and isinstance(node.ctx, ast.Store):
            names.add(node.id)
    return names


def module_names(tree):
    names = []
    for node in tree.body:
        if isinstance(node, ast.ImportFrom):
            names += [one.asname or one.name for one in node.names]
        elif isinstance(node, (ast.FunctionDef, ast.ClassDef)):
            names.append(node.name)
        elif isinstance(node, ast.Assign):
            names += [target.id for target in node.targets]
    return names


def is_docstring(node):
    return isinstance(node, ast.Expr) and isinstance(node.value, ast.Constant) and isinstance(node.value.value, str)


def docstrings(tree):
    found = []
    for node in ast.walk(tree):
        if isinstance(node, (ast.Module, ast.ClassDef, ast.FunctionDef)) and node.body and is_docstring(node.body[0]):
            found.append(node.body[0].value)
    return found


def parents(tree):
    above = {}
    for node in ast.walk(tree):
        for child in ast.iter_child_nodes(node):
            above[child] = node
    return above


def called(node):
    return node.func.id if isinstance(node, ast.Call) and isinstance(node.func, ast.Name) else None


class Language(unittest.TestCase):

    def test_files(self):
        self.assertIn("__init__.py", files())
        for name in files():
            self.assertTrue(name.endswith(".py"), name)
            text = source(name)
            self.assertTrue(all(" " <= sign <= "~" or sign == "\n" for sign in text), name)
            rows = text.split("\n")
            self.assertLessEqual(len(rows), 400, name)
            for at, row in enumerate(rows):
                self.assertLessEqual(len(row), 120, (name, at + 1))
                self.assertEqual(row, row.rstrip(), (name, at + 1))

    def test_functions_are_small_and_told(self):
        for name, tree in trees():
            for function in functions(tree):
                where = (name, function.name)
                self.assertLessEqual(function.end_lineno - function.lineno + 1, 40, where)
                if not function.name.startswith("__"):
                    self.assertIsNotNone(ast.get_docstring(function), where)
            for told in classes(tree):
                self.assertIsNotNone(ast.get_docstring(told), (name, told.name))

    def test_module_level(self):
        for name, tree in trees():
            self.assertIsNotNone(ast.get_docstring(tree), name)
            for node in tree.body[1:]:
                self.assertIsInstance(node, (ast.ImportFrom, ast.FunctionDef, ast.ClassDef, ast.Assign), name)
                if isinstance(node, ast.Assign):
                    self.assertEqual(len(node.targets), 1)
                    ast.literal_eval(node.value)
            names = module_names(tree)
            self.assertEqual(len(names), len(set(names)), name)
            self.assertFalse(set(names) & set(dir(builtins)), name)

    def test_imports(self):
        defined = {name[:-3]: set(module_names(tree)) for name, tree in trees()}
        needs = {}
        for name, tree in trees():
            own = needs.setdefault(name[:-3], [])
            for node in ast.walk(tree):
                self.assertNotIsInstance(node, ast.Import, name)
                if not isinstance(node, ast.ImportFrom):
                    continue
                self.assertIn(node, tree.body)
                self.assertEqual(node.level, 0)
                some = [one.name for one in node.names]
                self.assertTrue(all(one.asname is None for one in node.names), name)
                if node.module in LIBRARY:
                    self.assertLessEqual(set(some), LIBRARY[node.module], name)
                    continue
                folder, _, module = node.module.partition(".")
                self.assertEqual(folder, "firmstops")
                self.assertLessEqual(set(some), defined[module], (name, module))
                source_tree = dict(trees())[module + ".py"]
                for inner in source_tree.body:
                    if isinstance(inner, ast.ImportFrom):
                        self.assertFalse({one.name for one in inner.names} & set(some), (name, module))
                own.append(module)
        done = []
        while len(done) < len(needs):
            ready = [one for one in needs if one not in done and all(two in done for two in needs[one])]
            self.assertTrue(ready, "files import from each other")
            done += ready

    def test_statements_and_expressions(self):
        for name, tree in trees():
            for node in ast.walk(tree):
                where = (name, getattr(node, "lineno", 0))
                if isinstance(node, ast.stmt):
                    self.assertIsInstance(node, STATEMENTS, where)
                self.assertNotIsInstance(node, (ast.Div, ast.MatMult, ast.Lambda, ast.NamedExpr, ast.Await), where)
                self.assertNotIsInstance(node, (ast.Set, ast.SetComp, ast.GeneratorExp), where)
                if isinstance(node, ast.Constant):
                    self.assertNotIsInstance(node.value, (float, complex, bytes), where)
                if isinstance(node, ast.BinOp) and isinstance(node.op, ast.Pow):
                    self.assertIsInstance(node.right, ast.Constant, where)
                    self.assertLessEqual(node.right.value, 64, where)
                if isinstance(node, ast.Compare):
                    for sign, other in zip(node.ops, node.comparators):
                        if isinstance(sign, (ast.Is, ast.IsNot)):
                            self.assertIsInstance(other, ast.Constant, where)
                            self.assertIn(other.value, (None, True, False), where)
                if isinstance(node, ast.Raise):
                    self.assertIsInstance(node.exc, ast.Call, where)
                if isinstance(node, (ast.FunctionDef, ast.ClassDef)):
                    for one in node.decorator_list:
                        self.assertIn(getattr(one, "id", None), DECORATORS, where)

    def test_names(self):
        own_methods = set()
        for name, tree in trees():
            for told in classes(tree):
                own_methods |= {one.name for one in functions(told)}
        for name, tree in trees():
            outer = set(module_names(tree))
            for function in functions(tree):
                where = (name, function.name)
                inner = locals_of(function)
                self.assertFalse(inner & outer, where)
                self.assertFalse(inner & set(dir(builtins)), where)
                if function.name.startswith("__"):
                    self.assertIn(function.name, DUNDERS, where)
                for node in ast.walk(function):
                    if isinstance(node, ast.Name) and isinstance(node.ctx, ast.Load):
                        self.assertIn(node.id, inner | outer | BUILTINS, where)
                    if isinstance(node, ast.Name):
                        self.assertNotIn(node.id, BARRED_NAMES, where)
                    if isinstance(node, ast.Attribute):
                        self.assertNotIn(node.attr, {"format", "format_map", "mro"}, where)
                    if isinstance(node, ast.Call) and isinstance(node.func, ast.Attribute):
                        self.assertIn(node.func.attr, METHODS | own_methods, where)
                        self.assertEqual(node.keywords, [], where)
            loaded = {node.id for node in ast.walk(tree) if isinstance(node, ast.Name)}
            for node in tree.body:
                if isinstance(node, ast.ImportFrom):
                    self.assertLessEqual({one.name for one in node.names}, loaded, (name, "not used"))

    def test_local_names_are_used(self):
        for name, tree in trees():
            for function in functions(tree):
                stored, loaded = set(), set()
                for node in ast.walk(function):
                    if isinstance(node, ast.Name):
                        (stored if isinstance(node.ctx, ast.Store) else loaded).add(node.id)
                self.assertLessEqual(stored - {"_"}, loaded, (name, function.name))
                self.assertNotIn("_", loaded, (name, function.name))

    def test_strings(self):
        for name, tree in trees():
            told = docstrings(tree)
            for node in ast.walk(tree):
                if isinstance(node, ast.Constant) and isinstance(node.value, str):
                    self.assertNotIn("%", node.value, (name, node.lineno))
                    self.assertNotIn("__", node.value, (name, node.lineno))
                    if not any(node is one for one in told):
                        self.assertFalse(set(node.value.split()) & BARRED_WORDS, (name, node.lineno))

    def test_classes(self):
        methods, attributes = {}, {}
        for name, tree in trees():
            for told in classes(tree):
                some = [one.name for one in functions(told)]
                self.assertEqual(len(some), len(set(some)), told.name)
                kept = set()
                for node in ast.walk(told):
                    if isinstance(node, ast.Attribute) and isinstance(node.ctx, ast.Store):
                        kept.add(node.attr)
                self.assertFalse(kept & set(some), told.name)
                methods[told.name], attributes[told.name] = set(some), kept
        for told in methods:
            for other in attributes:
                self.assertFalse(methods[told] & attributes[other], (told, other))

    def test_generators_have_names_of_their_own(self):
        some = [function for _, tree in trees() for function in functions(tree)]
        names = [function.name for function in some]
        for function in some:
            if any(isinstance(node, (ast.Yield, ast.YieldFrom)) for node in ast.walk(function)):
                self.assertEqual(names.count(function.name), 1, function.name)
                self.assertNotIn(function.name, METHODS)

    def test_iterated_on_the_spot(self):
        for name, tree in trees():
            above = parents(tree)
            for node in ast.walk(tree):
                if called(node) in ON_THE_SPOT:
                    up = above[node]
                    fits = isinstance(up, (ast.For, ast.comprehension)) and up.iter is node
                    eaten = called(up) in EATERS or getattr(getattr(up, "func", None), "attr", None) == "join"
                    self.assertTrue(fits or eaten, (name, node.lineno))

    def test_loops_leave_what_they_go_over(self):
        for name, tree in trees():
            for loop in ast.walk(tree):
                if not isinstance(loop, ast.For):
                    continue
                over = {ast.unparse(one) for one in ast.walk(loop.iter) if isinstance(one, (ast.Name, ast.Attribute))}
                for node in [one for row in loop.body for one in ast.walk(row)]:
                    changed = []
                    if isinstance(node, (ast.Assign, ast.AugAssign)):
                        targets = node.targets if isinstance(node, ast.Assign) else [node.target]
                        changed = [one.value if isinstance(one, ast.Subscript) else one for one in targets]
                    elif isinstance(node, ast.Call) and isinstance(node.func, ast.Attribute):
                        if node.func.attr in {"append", "extend", "pop", "insert", "remove", "clear", "update"}:
                            changed = [node.func.value]
                    for one in changed:
                        self.assertNotIn(ast.unparse(one), over, (name, node.lineno))


if __name__ == "__main__":
    unittest.main()

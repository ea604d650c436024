"""The rules of the language subset that can be seen in the files of the package, one by one."""

import ast
import builtins
import importlib
import inspect
import io
import re
import tokenize
import unittest
from pathlib import Path

import frugaltape

PACKAGE = Path(frugaltape.__file__).resolve().parent
LIBRARY = {
    "heapq": {"heappush", "heappop", "heapify", "heapreplace", "heappushpop"},
    "math": {"gcd", "lcm", "isqrt", "comb", "perm", "factorial"},
    "itertools": {"product", "combinations", "permutations"},
}
BUILTINS = set(
    "len range enumerate zip min max sum abs sorted reversed int str bool bytes list tuple dict set isinstance ord repr "
    "any all divmod map iter next super property staticmethod classmethod Exception ValueError TypeError KeyError "
    "IndexError LookupError ZeroDivisionError ArithmeticError OverflowError RuntimeError NotImplementedError "
    "AttributeError StopIteration NotImplemented".split()
)
METHODS = set(
    "init eq repr str len enter exit call iter lt le gt ge ne neg pos invert abs bool contains getitem setitem".split()
)
ARITHMETIC = set("add sub mul floordiv mod pow and or xor lshift rshift".split())
WORDS = set(
    "register mro elements open input law version_info with_traceback add_note type typing typing_extensions enum Enum "
    "IntEnum StrEnum Flag IntFlag Generic Protocol ABC ABCMeta namedtuple NamedTuple TypedDict TYPE_CHECKING "
    "abstractmethod".split()
)
NAMES = set(
    "attrgetter breakpoint builtins compile copyright credits delattr dir eval exec exit gc getattr globals hasattr help "
    "id importlib license locals methodcaller os quit setattr super type vars sys _record _cold _outside".split()
)
BUILTIN_METHODS = set(
    "append clear copy count endswith extend find get index insert isalnum isalpha isdigit islower isspace isupper items "
    "join keys ljust lower lstrip partition pop remove replace reverse rfind rjust rpartition rsplit rstrip setdefault "
    "split splitlines startswith strip update upper values zfill bit_length title capitalize swapcase casefold center "
    "expandtabs removeprefix removesuffix rindex isascii isdecimal isnumeric istitle isidentifier isprintable add discard "
    "sort translate".split()
)
STATEMENTS = (
    ast.Assign, ast.AugAssign, ast.AnnAssign, ast.If, ast.While, ast.For, ast.Return, ast.Break, ast.Continue, ast.Pass,
    ast.Raise, ast.Assert, ast.Delete, ast.Nonlocal, ast.Match, ast.With, ast.Try, ast.Expr, ast.FunctionDef, ast.ClassDef,
    ast.ImportFrom,
)


def bound_names(tree):
    """All names that a file gives to something, except those of methods."""
    methods = {row for node in ast.walk(tree) if isinstance(node, ast.ClassDef) for row in node.body}
    for node in ast.walk(tree):
        if isinstance(node, ast.Name) and not isinstance(node.ctx, ast.Load):
            yield node.id
        elif isinstance(node, ast.arg):
            yield node.arg
        elif isinstance(node, (ast.FunctionDef, ast.ClassDef)) and node not in methods:
            yield node.name


class RulesTest(unittest.TestCase):
    @classmethod
    def setUpClass(cls):
        cls.files = sorted(PACKAGE.glob("*.py"))
        cls.texts = {path.name: path.read_bytes().decode("ascii") for path in cls.files}
        cls.trees = {name: ast.parse(text) for name, text in cls.texts.items()}

    def nodes(self, *kinds):
        """All nodes of these kinds, each with a name of its place."""
        for name, tree in self.trees.items():
            for node in ast.walk(tree):
                if isinstance(node, kinds):
                    yield f"{name}:{getattr(node, 'lineno', 0)}", node

    def test_files(self):
        self.assertIn("__init__.py", self.texts)
        for path in PACKAGE.iterdir():
            if path.name != "__pycache__":
                self.assertTrue(path.is_file() and re.fullmatch("[a-z0-9_]+[.]py", path.name), path.name)
                self.assertNotIn(path.stem, dir(builtins))

    def test_characters_and_sizes(self):
        for name, text in self.texts.items():
            self.assertRegex(text, "\\A[ -~\n]*\\Z", name)
            self.assertTrue(all(len(line) <= 120 for line in text.split("\n")), name)
            self.assertLessEqual(len(text.splitlines()), 399, name)
        for place, node in self.nodes(ast.FunctionDef):
            self.assertLessEqual(node.end_lineno - node.lineno + 1, 40, place)

    def test_imports(self):
        needed = {}
        for name, tree in self.trees.items():
            needed[name[:-3]] = []
            for node in tree.body:
                if isinstance(node, ast.ImportFrom):
                    self.check_import(name, node, needed[name[:-3]])
        for place, node in self.nodes(ast.Import):
            self.fail(place)
        while needed:
            free = [name for name, others in needed.items() if not set(others) & set(needed)]
            self.assertTrue(free, f"these import each other: {sorted(needed)}")
            for name in free:
                del needed[name]

    def check_import(self, name, node, others):
        imported = {alias.name for alias in node.names}
        self.assertTrue(all(alias.asname is None for alias in node.names), name)
        if node.module in LIBRARY:
            self.assertLessEqual(imported, LIBRARY[node.module], name)
            return
        package, module = node.module.split(".")
        self.assertEqual((package, node.level), ("frugaltape", 0), name)
        others.append(module)
        made = set()
        for row in self.trees[f"{module}.py"].body:
            if isinstance(row, (ast.FunctionDef, ast.ClassDef)):
                made.add(row.name)
            elif isinstance(row, ast.Assign):
                made.update(target.id for target in row.targets)
        self.assertLessEqual(imported, made, name)

    def test_statements(self):
        for place, node in self.nodes(ast.stmt):
            self.assertIsInstance(node, STATEMENTS, place)
        for name, tree in self.trees.items():
            for node in tree.body:
                allowed = (ast.ImportFrom, ast.FunctionDef, ast.ClassDef, ast.Assign, ast.Expr)
                self.assertIsInstance(node, allowed, name)
                if isinstance(node, ast.Expr):
                    self.assertIsInstance(node.value, ast.Constant, name)

    def test_names(self):
        barred = (set(dir(builtins)) | WORDS | NAMES) - {"super"}
        for name, tree in self.trees.items():
            for bound in bound_names(tree):
                self.assertNotIn(bound, barred, name)
                self.assertFalse(bound.startswith(("__", "_wall", "_pe_")), f"{name}: {bound}")

    def test_builtins(self):
        for place, node in self.nodes(ast.Name):
            if node.id in dir(builtins):
                self.assertIn(node.id, BUILTINS, place)

    def test_words(self):
        for name, text in self.texts.items():
            for token in tokenize.generate_tokens(io.StringIO(text).readline):
                docstring = token.string.startswith('"""')
                if token.type != tokenize.COMMENT and not docstring:
                    self.assertFalse(set(re.findall("\\w+", token.string)) & WORDS, f"{name}: {token.line}")

    def test_values(self):
        for place, node in self.nodes(ast.Constant):
            self.assertNotIsInstance(node.value, (float, complex), place)
            if isinstance(node.value, str):
                self.assertFalse("%" in node.value and len(node.value) < 400, place)
        for place, node in self.nodes(ast.BinOp):
            self.assertNotIsInstance(node.op, (ast.Div, ast.MatMult), place)
            if isinstance(node.op, ast.Pow):
                self.assertIsInstance(node.right, ast.Constant, place)
                self.assertIn(node.right.value, range(65), place)

    def test_comparisons(self):
        for place, node in self.nodes(ast.Compare):
            for operator, right in zip(node.ops, node.comparators):
                if isinstance(operator, (ast.Is, ast.IsNot)):
                    self.assertTrue(isinstance(right, ast.Constant) and right.value in (None, True, False), place)

    def test_generator_expressions(self):
        # A class of the package has __eq__: lists stand in any, all, sum and the like.
        for place, node in self.nodes(ast.GeneratorExp):
            self.fail(place)

    def test_methods(self):
        allowed = METHODS | ARITHMETIC | {"i" + word for word in ARITHMETIC} | {"r" + word for word in ARITHMETIC}
        for place, node in self.nodes(ast.ClassDef):
            for row in node.body:
                if isinstance(row, ast.FunctionDef) and row.name.startswith("__"):
                    self.assertIn(row.name.strip("_"), allowed, place)
        for place, node in self.nodes(ast.FunctionDef):
            for decorator in node.decorator_list:
                named = isinstance(decorator, ast.Name) and decorator.id in ("property", "classmethod", "staticmethod")
                self.assertTrue(named or isinstance(decorator, ast.Attribute) and decorator.attr == "setter", place)

    def test_called_methods(self):
        own = {node.name for _, node in self.nodes(ast.FunctionDef)}
        for place, node in self.nodes(ast.Call):
            if isinstance(node.func, ast.Attribute):
                self.assertIn(node.func.attr, own | BUILTIN_METHODS, place)

    def test_handlers_name_errors(self):
        for place, node in self.nodes(ast.ExceptHandler):
            self.assertIsNotNone(node.type, place)

    def test_sets_are_not_iterated(self):
        for place, node in self.nodes(ast.For, ast.comprehension):
            self.assertNotIsInstance(node.iter, (ast.Set, ast.SetComp), place)
            called = isinstance(node.iter, ast.Call) and isinstance(node.iter.func, ast.Name) and node.iter.func.id
            self.assertNotIn(called, ("set", "frozenset"), place)


    def test_attributes(self):
        barred = set("items keys values pop update append clear extend insert remove reverse setdefault sort args encode "
                     "decode hex fromhex format real imag numerator denominator".split())
        stored, methods, properties = {}, {}, set()
        for place, node in self.nodes(ast.ClassDef):
            for row in node.body:
                if isinstance(row, ast.FunctionDef):
                    decorated = [getattr(decorator, "id", "") for decorator in row.decorator_list]
                    methods.setdefault(row.name, []).append(place)
                    properties.update([row.name] if "property" in decorated else [])
        for place, node in self.nodes(ast.Attribute):
            if isinstance(node.ctx, ast.Store):
                stored.setdefault(node.attr, []).append(place)
        self.assertFalse(barred & set(stored))
        self.assertFalse(set(stored) & set(methods), "a name is both a method or a property and an attribute")
        for name in properties:
            self.assertEqual(len(methods[name]), 1, name)

    def test_names_of_imports_and_classes_mean_nothing_else(self):
        for name, tree in self.trees.items():
            taken = {alias.name for node in tree.body if isinstance(node, ast.ImportFrom) for alias in node.names}
            taken.update(node.name for node in tree.body if isinstance(node, ast.ClassDef))
            for node in ast.walk(tree):
                if isinstance(node, ast.arg):
                    self.assertNotIn(node.arg, taken, name)
                elif isinstance(node, ast.Name) and not isinstance(node.ctx, ast.Load):
                    self.assertNotIn(node.id, taken, name)

    def test_generators(self):
        named = [node.name for _, node in self.nodes(ast.FunctionDef)]
        for place, node in self.nodes(ast.FunctionDef):
            if any(isinstance(row, (ast.Yield, ast.YieldFrom)) for row in ast.walk(node)):
                self.assertEqual(named.count(node.name), 1, place)
                self.assertFalse(any(isinstance(row, (ast.Try, ast.With)) for row in ast.walk(node)), place)
        for place, node in self.nodes(ast.Call):
            self.assertFalse(isinstance(node.func, ast.Name) and node.func.id == "reversed", place)

    def test_iterated_dicts_are_copied(self):
        for place, node in self.nodes(ast.Assign):
            called = isinstance(node.value, ast.Call) and node.value.func
            if isinstance(called, ast.Name):
                self.assertNotIn(called.id, ("zip", "enumerate", "map", "filter"), place)


class InterfaceTest(unittest.TestCase):
    """The names, the arguments and the defaults of the interface."""

    MODULES = {
        "spaces": {"Space": ["width", "vectors=()"]},
        "programs": {"Program": ["given", "variables", "procedures", "main"]},
        "texts": {"format_program": ["program"], "parse_program": ["text"]},
        "running": {"execute": ["program", "values", "inputs", "limit=10000"]},
        "paths": {"free_run": ["program", "start", "choices", "steps"]},
        "analysis": {"Analysis": ["program"]},
        "quiet": {"is_quiet": ["program", "address"], "after_rounds": ["program", "address", "values", "rounds"]},
        "machine": {"Machine": ["program", "values", "inputs=()"]},
        "papers": {"paper": ["program"], "run_paper": ["machine"], "is_paper": ["program", "candidate"],
                   "is_run_paper": ["program", "candidate"], "row_run": ["program", "candidate", "row", "limit=2000"]},
        "reversing": {"reversed_program": ["program"], "reversed_inputs": ["machine"]},
        "questions": {"last_write": ["machine", "name"], "writes": ["machine", "name", "limit=10000"],
                      "last_true": ["machine", "expression", "limit=10000"], "outputs_at": ["machine", "step"]},
        "debugger": {"Debugger": ["machine"]},
        "plans": {"cheapest": ["present", "target", "kept", "jump"], "best_steps": ["queries", "count"], "Keeper": ["machine", "jump"]},
        "editing": {"compared": ["one", "other"], "what_if": ["machine", "step", "name", "value", "limit=10000"]},
        "journal": {"Journal": ["machine"], "recover": ["program", "values", "inputs", "pieces"]},
        "rewriting": {"exchanged": ["program", "address"], "sunk": ["program", "address"], "lifted": ["program", "address"],
                      "counted": ["program", "address"], "thrifty": ["program"], "rewritten": ["program", "steps"],
                      "saving": ["program", "address"], "paying": ["program"]},
        "rates": {"edges": ["program"], "rate": ["program"], "rate_paper": ["program"], "is_rate_paper": ["program", "candidate"]},
        "renaming": {"renamed": ["program", "names"], "format_machine": ["machine"]},
        "console": {"Console": []},
    }
    METHODS = {
        "Space": {"is_within": ["other"], "full": ["width"], "width": None, "basis": None},
        "Program": {"entry": ["name"], "given": None, "variables": None, "procedures": None, "main": None, "names": None,
                    "code": None},
        "Analysis": {"space": ["address"], "open_space": ["address"], "after": ["address"], "ways": ["address"],
                     "equations": ["address"], "fits": ["address", "values"], "decision": ["address"], "recording": None},
        "Machine": {"forward": ["count=1"], "back": ["count=1"], "go": ["step"], "finish": ["limit=10000"],
                    "edit": ["name", "value"], "copy": [], **dict.fromkeys(
                        "program here now state stack tape inputs read_count outputs is_done full_length edits".split())},
        "Debugger": {"stop_at": ["address"], "forget": ["address"], "watch": ["expression"], "jump": ["step"], "undo": [],
                     "resume": ["limit=10000"], "reverse": ["limit=10000"], "attempt": ["visitor"], "snapshot": [], "breakpoints": None,
                     "__len__": []},
        "Keeper": {"keep": [], "drop": ["step"], "visit": ["step"], "snapshot": [], "kept": None, "spent": None},
        "Journal": {"advance": ["count=1"], "write": [], "snapshot": []},
        "Console": {"run": ["line"]},
    }

    def parameters(self, function):
        """The parameters of a function, but for `self`."""
        found = [str(parameter) for parameter in inspect.signature(function).parameters.values()]
        return [name for name in found if name not in ("self", "cls")]

    def test_everything_is_defined_in_its_file(self):
        self.assertEqual(importlib.import_module("frugaltape.spaces").MAX_WIDTH, 64)
        for module, names in self.MODULES.items():
            for name, parameters in names.items():
                found = getattr(importlib.import_module(f"frugaltape.{module}"), name)
                self.assertEqual(found.__module__, f"frugaltape.{module}")
                self.assertEqual(self.parameters(found), parameters, name)
                for method, expected in self.METHODS.get(name, {}).items():
                    own = vars(found)[method]
                    if expected is None:
                        self.assertIsInstance(own, property)
                    else:
                        self.assertEqual(self.parameters(getattr(found, method)), expected, method)


if __name__ == "__main__":
    unittest.main()

"""Checks of the rules of the language that a short walk over the code can see (L1 to L28)."""

import ast
import builtins
import os
import re
import unittest

ROOT = os.path.dirname(os.path.dirname(os.path.abspath(__file__)))
PACKAGE = os.path.join(ROOT, "fewestheld")

LIBRARY = {
    "heapq": {"heappush", "heappop", "heapify", "heapreplace", "heappushpop"},
    "math": {"gcd", "lcm", "isqrt", "comb", "perm", "factorial"},
    "itertools": {"product", "combinations", "permutations", "chain", "accumulate", "pairwise", "islice",
                  "zip_longest"},
    "collections": {"defaultdict", "deque"},
}
BUILTINS = set("""len range enumerate zip min max sum abs sorted reversed int str bool list tuple dict set
frozenset isinstance ord repr any all divmod map iter next super property ValueError KeyError IndexError
LookupError True False None""".split())
METHODS = set("""append clear copy count endswith extend find get index insert isalnum isalpha isdigit islower
isspace isupper items join keys ljust lower lstrip partition pop remove replace reverse rfind rjust rpartition
rsplit rstrip setdefault split splitlines startswith strip update upper values zfill bit_length sort add discard
popleft appendleft __init__""".split())
BARRED = set("""type typing enum Enum IntEnum StrEnum Flag IntFlag Generic Protocol ABC ABCMeta namedtuple
NamedTuple TypedDict TYPE_CHECKING abstractmethod""".split())

def files():
    return sorted(name for name in os.listdir(PACKAGE) if name != "__pycache__")


def source(name):
    with open(os.path.join(PACKAGE, name), encoding="utf-8") as file:
        return file.read()


def trees():
    return [(name, ast.parse(source(name))) for name in files()]


def functions(tree):
    return [node for node in ast.walk(tree) if isinstance(node, ast.FunctionDef)]


def bound_names(tree):
    names = set()
    for node in ast.walk(tree):
        if isinstance(node, ast.Name) and isinstance(node.ctx, ast.Store):
            names.add(node.id)
        elif isinstance(node, (ast.FunctionDef, ast.ClassDef)):
            names.add(node.name)
        elif isinstance(node, ast.arg):
            names.add(node.arg)
        elif isinstance(node, ast.alias) or (isinstance(node, ast.ExceptHandler) and node.name):
            names.add(node.name)
    return names


class TestLanguage(unittest.TestCase):
    def test_folder_holds_plain_files_only(self):
        for name in files():
            self.assertRegex(name, r"\A[a-z0-9_]+\.py\Z")
        self.assertEqual(source("__init__.py"), "")

    def test_sizes_and_characters(self):
        for name in files():
            text = source(name)
            self.assertRegex(text, r"\A[ -~\n]*\Z", name)
            self.assertLessEqual(len(text.split("\n")) - 1, 399, name)
            for line in text.split("\n"):
                self.assertLessEqual(len(line), 120, name)
        for name, tree in trees():
            for node in functions(tree):
                self.assertLessEqual(node.end_lineno - node.lineno + 1, 40, (name, node.name))

    def test_imports(self):
        modules = {name[:-3] for name in files()}
        for name, tree in trees():
            for node in ast.walk(tree):
                self.assertNotIsInstance(node, ast.Import, name)
                if isinstance(node, ast.ImportFrom):
                    self.assertEqual(node.level, 0)
                    self.assertIn(node, tree.body)
                    self.assertTrue(all(alias.asname is None for alias in node.names))
                    self.check_import(name, node, modules)

    def check_import(self, name, node, modules):
        told = {alias.name for alias in node.names}
        if node.module in LIBRARY:
            self.assertLessEqual(told, LIBRARY[node.module])
            return
        top, _, module = node.module.partition(".")
        self.assertEqual(top, "fewestheld", name)
        self.assertIn(module, modules)
        body = ast.parse(source(module + ".py")).body
        defined = {part.name for part in body if isinstance(part, (ast.FunctionDef, ast.ClassDef))}
        for part in body:
            if isinstance(part, ast.Assign):
                defined.add(part.targets[0].id)
        self.assertLessEqual(told, defined)

    def test_no_two_files_import_from_each_other(self):
        needs = {}
        for name, tree in trees():
            modules = [node.module for node in tree.body if isinstance(node, ast.ImportFrom)]
            needs["fewestheld." + name[:-3]] = [module for module in modules if module.startswith("fewestheld")]
        done = set()
        while len(done) < len(needs):
            free = [name for name in needs if name not in done and all(need in done for need in needs[name])]
            self.assertTrue(free)
            done.update(free)

    def test_statements_and_expressions(self):
        barred = (ast.AsyncFunctionDef, ast.Global, ast.Nonlocal, ast.Set, ast.SetComp, ast.Div, ast.AnnAssign,
                  ast.Await, ast.Yield, ast.YieldFrom, ast.NamedExpr, ast.GeneratorExp, ast.With, ast.Match)
        for name, tree in trees():
            for node in ast.walk(tree):
                self.assertNotIsInstance(node, barred, (name, getattr(node, "lineno", 0)))
                if isinstance(node, ast.Constant):
                    self.assertNotIsInstance(node.value, (float, complex), name)
                    if isinstance(node.value, str):
                        self.assertNotIn("%", node.value)
                if isinstance(node, ast.arg):
                    self.assertIsNone(node.annotation)
                if isinstance(node, ast.FunctionDef):
                    self.assertTrue(all(part.id == "property" for part in node.decorator_list))

    def test_only_own_errors_are_caught(self):
        own = {node.name for node in ast.parse(source("errors.py")).body if isinstance(node, ast.ClassDef)}
        for name, tree in trees():
            for node in functions(tree):
                handlers = [part for part in ast.walk(node) if isinstance(part, ast.ExceptHandler)]
                caught = [part.name for part in handlers if part.name]
                self.assertEqual(len(caught), len(set(caught)), (name, node.name))
                for part in handlers:
                    self.assertIsInstance(part.type, ast.Name, (name, node.name))
                    self.assertIn(part.type.id, own, (name, node.name))
                self.assertFalse([part for part in ast.walk(node) if isinstance(part, ast.Try) and part.finalbody])

    def test_only_listed_builtins_and_methods(self):
        own = set()
        for _, tree in trees():
            own.update(node.name for node in functions(tree))
        for name, tree in trees():
            bound = bound_names(tree)
            self.assertFalse(bound & set(dir(builtins)), name)
            for node in ast.walk(tree):
                if isinstance(node, ast.Name) and isinstance(node.ctx, ast.Load) and node.id not in bound:
                    self.assertIn(node.id, BUILTINS, name)
                if isinstance(node, ast.Call) and isinstance(node.func, ast.Attribute):
                    self.assertIn(node.func.attr, METHODS | own, name)

    def test_words_that_stand_in_no_file(self):
        for name in files():
            code = re.sub(r'"""[^"]*"""|#[^\n]*', "", source(name))
            self.assertFalse(set(re.findall(r"\w+", code)) & BARRED, name)

    def test_no_local_name_hides_a_class_or_an_import(self):
        for name, tree in trees():
            taken = set()
            for node in tree.body:
                if isinstance(node, ast.ImportFrom):
                    taken.update(alias.name for alias in node.names)
                elif isinstance(node, ast.ClassDef):
                    taken.add(node.name)
            for node in ast.walk(tree):
                if isinstance(node, ast.arg):
                    self.assertNotIn(node.arg, taken, name)
                elif isinstance(node, ast.Name) and isinstance(node.ctx, ast.Store):
                    self.assertNotIn(node.id, taken, name)

    def test_every_function_and_class_has_a_plain_name(self):
        for _, tree in trees():
            for found in bound_names(tree):
                self.assertRegex(found, r"\A(_|_?[A-Za-z][A-Za-z0-9_]*|__init__)\Z")


if __name__ == "__main__":
    unittest.main()

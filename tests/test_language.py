"""The package keeps to the rules of LANGUAGE.md that can be told from the code alone."""

import ast
import builtins
import re
import unittest
import warnings
from pathlib import Path

PACKAGE = Path(__file__).resolve().parent.parent / "leftwithout"

BUILTINS = set("""
    len range enumerate zip min max sum abs sorted reversed int str bool list tuple dict set isinstance ord repr any
    all divmod getattr hasattr setattr iter next map Exception ValueError TypeError KeyError IndexError LookupError
    ZeroDivisionError ArithmeticError OverflowError RuntimeError NotImplementedError StopIteration NotImplemented
""".split())

METHODS = set("""
    append clear copy count endswith extend find get index insert isalnum isalpha isdigit islower isspace isupper
    items join keys ljust lower lstrip partition pop remove replace reverse rfind rjust rpartition rsplit rstrip
    setdefault split splitlines startswith strip update upper values zfill bit_length add discard removeprefix
    removesuffix rindex isascii isdecimal __init__
""".split())

NOT_IN_A_FILE = set("""
    type typing enum Enum namedtuple NamedTuple dataclass overload contextmanager abstractmethod _wall _WallAttr chr
    register mro elements open input law eval exec globals locals vars dir id compile help exit quit
""".split())

LIBRARY = {
    "heapq": ("heappush", "heappop", "heapify", "heapreplace", "heappushpop"),
    "math": ("gcd", "lcm", "isqrt", "comb", "perm", "factorial"),
    "itertools": (
        "product", "combinations", "permutations", "chain", "accumulate", "pairwise", "islice", "zip_longest",
    ),
    "collections": ("defaultdict",),
}

# Generator expressions are let in some places only, as long as no class
# has an __eq__; lists do as well everywhere.
NODES_NOT_ALLOWED = (
    ast.Global, ast.AsyncFunctionDef, ast.AsyncFor, ast.AsyncWith, ast.Await, ast.Import, ast.Div, ast.MatMult,
    ast.GeneratorExp,
)


def files():
    return sorted(PACKAGE.rglob("*.py"))


def trees():
    for file in files():
        yield file, ast.parse(file.read_text(encoding="utf-8"))


def functions(tree):
    return [node for node in ast.walk(tree) if isinstance(node, ast.FunctionDef)]


def local_names(function):
    """Parameters and names that the function assigns."""
    own = [argument.arg for argument in function.args.args]
    return own + [node.id for node in ast.walk(function) if isinstance(node, ast.Name) and isinstance(node.ctx, ast.Store)]


def own_methods():
    return {node.name for _, tree in trees() for own in tree.body if isinstance(own, ast.ClassDef) for node in own.body
            if isinstance(node, ast.FunctionDef)}


def imported(tree):
    return [(node.module, name) for node in tree.body if isinstance(node, ast.ImportFrom) for name in node.names]


class Language(unittest.TestCase):
    def test_folder_has_nothing_else(self):
        for file in PACKAGE.rglob("*"):
            if "__pycache__" not in file.parts:
                self.assertTrue(file.is_dir() or re.fullmatch(r"[a-z0-9_]+\.py", file.name), file)

    def test_characters_and_sizes(self):
        for file in files():
            text = file.read_text(encoding="utf-8")
            with self.subTest(file.name):
                self.assertEqual(re.findall(r"[^ -~\n]", text), [])
                lines = text.split("\n")
                self.assertLessEqual(len(lines), 399)
                self.assertLessEqual(max(map(len, lines)), 120)

    def test_functions_are_short(self):
        for file, tree in trees():
            for node in functions(tree):
                self.assertLessEqual(node.end_lineno - node.lineno + 1, 40, (file.name, node.name))

    def test_imports_are_of_the_package_and_go_one_way(self):
        behind = {}
        for file, tree in trees():
            for module, name in imported(tree):
                self.assertIsNone(name.asname)
                if module in LIBRARY:
                    self.assertIn(name.name, LIBRARY[module], file.name)
                    continue
                self.assertTrue(module.startswith("leftwithout."), (file.name, module))
                behind.setdefault(file.stem, set()).add(module.removeprefix("leftwithout."))
        for file in behind:
            seen, ahead = set(), [file]
            while ahead:
                for name in behind.get(ahead.pop(), ()):
                    self.assertNotEqual(name, file, "files import one another")
                    if name not in seen:
                        seen.add(name)
                        ahead.append(name)

    def test_each_import_is_used_and_defined_there(self):
        for file, tree in trees():
            used = {node.id for node in ast.walk(tree) if isinstance(node, ast.Name)}
            for module, name in imported(tree):
                self.assertIn(name.name, used, file.name)
                if module in LIBRARY:
                    continue
                source = ast.parse((PACKAGE / (module.split(".")[1] + ".py")).read_text(encoding="utf-8"))
                defined = {node.name for node in source.body if isinstance(node, (ast.ClassDef, ast.FunctionDef))}
                self.assertIn(name.name, defined, file.name)

    def test_statements_at_module_level(self):
        for file, tree in trees():
            for node in tree.body:
                docstring = isinstance(node, ast.Expr) and isinstance(node.value, ast.Constant)
                plain = isinstance(node, ast.Assign) and len(node.targets) == 1 and bool(ast.literal_eval(node.value))
                kinds = (ast.ImportFrom, ast.FunctionDef, ast.ClassDef)
                self.assertTrue(docstring or plain or isinstance(node, kinds), (file.name, node.lineno))

    def test_nodes_that_are_not_allowed(self):
        for file, tree in trees():
            for node in ast.walk(tree):
                where = (file.name, getattr(node, "lineno", 0))
                self.assertNotIsInstance(node, NODES_NOT_ALLOWED, where)
                if isinstance(node, (ast.FunctionDef, ast.ClassDef)):
                    self.assertEqual(node.decorator_list, [], where)
                if isinstance(node, ast.Constant):
                    self.assertNotIsInstance(node.value, (float, complex, bytes), where)
                    self.assertNotIn("%", node.value if isinstance(node.value, str) else "", where)

    def test_builtins_and_methods(self):
        methods = METHODS | own_methods()
        for file, tree in trees():
            for node in ast.walk(tree):
                where = (file.name, getattr(node, "lineno", 0))
                if isinstance(node, ast.Name) and hasattr(builtins, node.id):
                    self.assertIn(node.id, BUILTINS, where)
                    self.assertIsInstance(node.ctx, ast.Load, where)
                if isinstance(node, ast.Call) and isinstance(node.func, ast.Attribute):
                    self.assertIn(node.func.attr, methods, where)

    def test_names(self):
        for file, tree in trees():
            names = [name.name for _, name in imported(tree)]
            names += [node.name for node in tree.body if isinstance(node, ast.ClassDef)]
            for function in functions(tree):
                self.assertFalse(hasattr(builtins, function.name) and not function.name.startswith("__"))
                for name in local_names(function):
                    self.assertNotIn(name, names, (file.name, function.name))
                    self.assertFalse(hasattr(builtins, name), (file.name, function.name, name))

    def test_words_that_do_not_occur(self):
        for file, tree in trees():
            for node in ast.walk(tree):
                name = getattr(node, "id", getattr(node, "attr", getattr(node, "arg", getattr(node, "name", None))))
                self.assertNotIn(name, NOT_IN_A_FILE, (file.name, getattr(node, "lineno", 0)))

    def test_python_gives_no_warning(self):
        with warnings.catch_warnings():
            warnings.simplefilter("error")
            for file in files():
                compile(file.read_text(encoding="utf-8"), file.name, "exec")


if __name__ == "__main__":
    unittest.main()

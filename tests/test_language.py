"""Some rules of the language that a walk through the code can see."""
import ast
import builtins
import pathlib
import unittest

FOLDER = pathlib.Path(__file__).parent.parent / "greenroads"
FILES = sorted(FOLDER.rglob("*.py"))
LIBRARY = {
    "heapq": {"heappush", "heappop", "heapify", "heapreplace", "heappushpop"},
    "math": {"gcd", "lcm", "isqrt", "comb", "perm", "factorial"},
    "itertools": {"product", "combinations", "permutations", "chain", "accumulate", "pairwise", "islice",
                  "zip_longest"},
    "collections": {"defaultdict"}}
BUILTINS = set(
    "len range enumerate zip min max sum abs sorted reversed int str bool bytes list tuple dict set frozenset "
    "isinstance ord repr any all divmod pow iter next getattr hasattr setattr map super property staticmethod "
    "classmethod Exception ValueError TypeError KeyError IndexError LookupError ZeroDivisionError ArithmeticError "
    "OverflowError RuntimeError NotImplementedError AttributeError StopIteration NotImplemented".split())
METHODS = set(
    "append clear copy count endswith extend find get index insert isalnum isalpha isdigit islower isspace isupper "
    "items join keys ljust lower lstrip partition pop remove replace reverse rfind rjust rpartition rsplit rstrip "
    "setdefault split splitlines startswith strip update upper values zfill bit_length add discard __init__".split())
BARRED = set(
    "register mro elements open input law version_info with_traceback add_note eval exec compile exit globals locals "
    "vars id dir type typing enum Enum dataclass overload contextmanager namedtuple NamedTuple Protocol ABC".split())
STATEMENTS = (ast.Global, ast.AsyncFunctionDef, ast.Await, ast.AsyncFor, ast.AsyncWith)


def trees():
    for path in FILES:
        yield path, ast.parse(path.read_text("ascii"))


def bound_names(tree):
    """All names that a file binds anywhere."""
    for node in ast.walk(tree):
        if isinstance(node, ast.Name) and isinstance(node.ctx, ast.Store):
            yield node.id
        elif isinstance(node, (ast.FunctionDef, ast.ClassDef)):
            yield node.name
        elif isinstance(node, ast.arg):
            yield node.arg


class Language(unittest.TestCase):
    def test_the_folder_holds_nothing_else(self):
        for path in FOLDER.rglob("*"):
            if "__pycache__" not in path.parts:
                self.assertTrue(path.suffix == ".py" or (path.is_dir() and (path / "__init__.py").exists()), path)

    def test_sizes_and_characters(self):
        for path in FILES:
            text = path.read_text("ascii")
            self.assertTrue(all(sign == "\n" or " " <= sign <= "~" for sign in text), path)
            self.assertLessEqual(len(text.split("\n")), 399, path)
            self.assertLessEqual(max(len(line) for line in text.split("\n")), 120, path)
        for path, tree in trees():
            for node in ast.walk(tree):
                if isinstance(node, ast.FunctionDef):
                    self.assertLessEqual(node.end_lineno - node.lineno + 1, 40, (path, node.name))

    def test_imports(self):
        defined = {}
        for path, tree in trees():
            module = ".".join(path.relative_to(FOLDER.parent).with_suffix("").parts)
            defined[module] = {node.name for node in tree.body if isinstance(node, (ast.FunctionDef, ast.ClassDef))}
            defined[module] |= {node.targets[0].id for node in tree.body if isinstance(node, ast.Assign)}
        for path, tree in trees():
            self.assertFalse([node for node in ast.walk(tree) if isinstance(node, ast.Import)], path)
            for node in ast.walk(tree):
                if isinstance(node, ast.ImportFrom):
                    known = LIBRARY.get(node.module) or defined[node.module]
                    for name in node.names:
                        self.assertIn(name.name, known, path)
                        self.assertIsNone(name.asname, path)

    def test_module_level(self):
        for path, tree in trees():
            kinds = (ast.FunctionDef, ast.ClassDef, ast.ImportFrom, ast.Assign, ast.Expr)
            for node in tree.body:
                self.assertIsInstance(node, kinds, path)
                if isinstance(node, ast.Expr):
                    self.assertIsInstance(node.value, ast.Constant, path)

    def test_builtins_and_names(self):
        taken = set(dir(builtins))
        for path, tree in trees():
            bound = set(bound_names(tree))
            self.assertFalse(bound & (taken | BARRED), path)
            for name in bound:
                self.assertTrue(not name.startswith("__") or name.endswith("__"), (path, name))
            for node in ast.walk(tree):
                if isinstance(node, ast.Name) and node.id in taken:
                    self.assertIn(node.id, BUILTINS, (path, node.lineno))

    def test_statements_and_expressions(self):
        own = {name for _, tree in trees() for name in bound_names(tree)}
        for path, tree in trees():
            for node in ast.walk(tree):
                where = path, getattr(node, "lineno", 0)
                self.assertNotIsInstance(node, STATEMENTS, where)
                self.assertFalse(isinstance(node, ast.BinOp) and isinstance(node.op, ast.Div), where)
                if isinstance(node, ast.Constant):
                    self.assertNotIsInstance(node.value, (float, complex), where)
                    self.assertFalse(isinstance(node.value, str) and "%" in node.value, where)
                if isinstance(node, ast.Call) and isinstance(node.func, ast.Attribute):
                    self.assertIn(node.func.attr, METHODS | own, where)
                if isinstance(node, ast.Attribute):
                    self.assertNotIn(node.attr, BARRED, where)


if __name__ == "__main__":
    unittest.main()

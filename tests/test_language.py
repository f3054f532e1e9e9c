"""Some rules of the language that a walk through the code can see."""
import ast
import builtins
import pathlib
import unittest

FOLDER = pathlib.Path(__file__).parent.parent / "greenroads"
FILES = sorted(FOLDER.rglob("*.py"))
LIBRARY = {
    "heapq": {"heappush", "heappop", "heapify", "heapreplace", "heappushpop"},
    "math": {"gcd", "lcm", "isqrt", "comb", "perm", "factorial"},
    "itertools": {"product", "combinations", "permutations", "chain", "accumulate", "pairwise", "islice",
                  "zip_longest"},
    "collections": {"defaultdict"}}
BUILTINS = set(
    "len range enumerate zip min max sum abs sorted reversed int str bool bytes list tuple dict set frozenset "
    "isinstance ord repr any all divmod pow iter next getattr hasattr setattr map super property staticmethod "
    "classmethod Exception ValueError TypeError KeyError IndexError LookupError ZeroDivisionError ArithmeticError "
    "OverflowError RuntimeError NotImplementedError AttributeError StopIteration NotImplemented".split())
METHODS = set(
    "append clear copy count endswith extend find get index insert isalnum isalpha isdigit islower isspace isupper "
    "items join keys ljust lower lstrip partition pop remove replace reverse rfind rjust rpartition rsplit rstrip "
    "setdefault split splitlines startswith strip update upper values zfill bit_length add discard __init__ title "
    "capitalize swapcase casefold center expandtabs removeprefix removesuffix rindex isascii isdecimal isnumeric "
    "istitle isidentifier isprintable translate".split())
# What may go over zip, range and their kin at once, as its first argument.
GOES_OVER = set("list tuple dict sorted sum any all enumerate zip min max".split())
KEYWORDS = {"sorted": {"key", "reverse"}, "min": {"key", "default"}, "max": {"key", "default"}, "sum": {"start"},
            "enumerate": {"start"}, "zip": {"strict"}}
BARRED = set(
    "register mro elements open input law version_info with_traceback add_note eval exec compile exit globals locals "
    "vars id dir type typing enum Enum dataclass overload contextmanager namedtuple NamedTuple Protocol ABC".split())
STATEMENTS = (ast.Global, ast.AsyncFunctionDef, ast.Await, ast.AsyncFor, ast.AsyncWith)


# Methods of lists and dicts that modify them.
MODIFYING = set("append clear extend insert pop remove reverse setdefault update sort".split())
OPERATORS = set("__add__ __or__ __and__ __eq__ __len__".split())
OWN_DOUBLE = OPERATORS | {"__init__", "__call__"}
# What gives a new list or dict.
MAKERS = set("list dict sorted set".split())


def run_by_operators():
    """The functions and methods that operators and properties run, with their files."""
    known, queue = {}, []
    for path, tree in trees():
        for node in tree.body:
            if isinstance(node, ast.FunctionDef):
                known.setdefault(node.name, []).append((path, node))
            if isinstance(node, ast.ClassDef):
                for inner in node.body:
                    if isinstance(inner, ast.FunctionDef):
                        known.setdefault(node.name if inner.name == "__init__" else inner.name, []).append((path, inner))
                        if inner.name in OPERATORS or inner.decorator_list:
                            queue.append((path, inner))
    found = {}
    while queue:
        path, node = queue.pop()
        if id(node) not in found:
            found[id(node)] = (path, node)
            for inner in ast.walk(node):
                if isinstance(inner, ast.Call):
                    name = inner.func.id if isinstance(inner.func, ast.Name) else getattr(inner.func, "attr", "")
                    # Methods of lists have the names of none of our own.
                    queue.extend(known.get(name, []))
    return list(found.values())


def is_new(value):
    """Whether an expression gives a new list or dict."""
    if isinstance(value, ast.Call):
        return isinstance(value.func, ast.Name) and value.func.id in MAKERS
    return isinstance(value, (ast.List, ast.Dict, ast.ListComp, ast.DictComp))


def new_values(node):
    """The local names that a function assigns nothing but new lists and dicts, each one by a statement of its own."""
    # Other targets, also within tuples, of loops and of comprehensions, may get anything.
    plain = [inner.targets[0] for inner in ast.walk(node)
             if isinstance(inner, ast.Assign) and len(inner.targets) == 1 and is_new(inner.value)]
    made, other = set(), {inner.arg for inner in ast.walk(node) if isinstance(inner, ast.arg)}
    for inner in ast.walk(node):
        if isinstance(inner, ast.Name) and isinstance(inner.ctx, ast.Store):
            (made if inner in plain else other).add(inner.id)
    return made - other


def trees():
    for path in FILES:
        yield path, ast.parse(path.read_text("ascii"))


def bound_names(tree):
    """All names that a file binds anywhere."""
    for node in ast.walk(tree):
        if isinstance(node, ast.Name) and isinstance(node.ctx, ast.Store):
            yield node.id
        elif isinstance(node, (ast.FunctionDef, ast.ClassDef)):
            yield node.name
        elif isinstance(node, ast.arg):
            yield node.arg


def called_names(tree):
    """All names of functions that a file calls by attributes: own methods, and attributes that hold something."""
    for node in ast.walk(tree):
        if isinstance(node, ast.ClassDef):
            yield from (inner.name for inner in node.body if isinstance(inner, ast.FunctionDef))
        elif isinstance(node, ast.Attribute) and isinstance(node.ctx, ast.Store):
            yield node.attr


def parents(tree):
    return {inner: node for node in ast.walk(tree) for inner in ast.iter_child_nodes(node)}


def calls_of(tree, names):
    for node in ast.walk(tree):
        if isinstance(node, ast.Call) and isinstance(node.func, ast.Name) and node.func.id in names:
            yield node


class Language(unittest.TestCase):
    def test_the_folder_holds_nothing_else(self):
        for path in FOLDER.rglob("*"):
            if "__pycache__" not in path.parts:
                self.assertTrue(path.suffix == ".py" or (path.is_dir() and (path / "__init__.py").exists()), path)

    def test_sizes_and_characters(self):
        for path in FILES:
            text = path.read_text("ascii")
            self.assertTrue(all(sign == "\n" or " " <= sign <= "~" for sign in text), path)
            self.assertLessEqual(len(text.split("\n")), 399, path)
            self.assertLessEqual(max(len(line) for line in text.split("\n")), 120, path)
        for path, tree in trees():
            for node in ast.walk(tree):
                if isinstance(node, ast.FunctionDef):
                    self.assertLessEqual(node.end_lineno - node.lineno + 1, 40, (path, node.name))

    def test_imports(self):
        defined = {}
        for path, tree in trees():
            module = ".".join(path.relative_to(FOLDER.parent).with_suffix("").parts)
            defined[module] = {node.name for node in tree.body if isinstance(node, (ast.FunctionDef, ast.ClassDef))}
            defined[module] |= {node.targets[0].id for node in tree.body if isinstance(node, ast.Assign)}
        for path, tree in trees():
            self.assertFalse([node for node in ast.walk(tree) if isinstance(node, ast.Import)], path)
            for node in ast.walk(tree):
                if isinstance(node, ast.ImportFrom):
                    known = LIBRARY.get(node.module) or defined[node.module]
                    for name in node.names:
                        self.assertIn(name.name, known, path)
                        self.assertIsNone(name.asname, path)

    def test_module_level(self):
        for path, tree in trees():
            kinds = (ast.FunctionDef, ast.ClassDef, ast.ImportFrom, ast.Assign, ast.Expr)
            for node in tree.body:
                self.assertIsInstance(node, kinds, path)
                if isinstance(node, ast.Expr):
                    self.assertIsInstance(node.value, ast.Constant, path)

    def test_builtins_and_names(self):
        taken = set(dir(builtins))
        for path, tree in trees():
            bound = set(bound_names(tree))
            self.assertFalse(bound & (taken | BARRED), path)
            for name in bound:
                self.assertTrue(not name.startswith("__") or name.endswith("__"), (path, name))
            for node in ast.walk(tree):
                if isinstance(node, ast.Name) and node.id in taken:
                    self.assertIn(node.id, BUILTINS, (path, node.lineno))

    def test_statements_and_expressions(self):
        own = {name for _, tree in trees() for name in called_names(tree)}
        for path, tree in trees():
            for node in ast.walk(tree):
                where = path, getattr(node, "lineno", 0)
                self.assertNotIsInstance(node, STATEMENTS, where)
                self.assertFalse(isinstance(node, ast.BinOp) and isinstance(node.op, ast.Div), where)
                if isinstance(node, ast.Constant):
                    self.assertNotIsInstance(node.value, (float, complex), where)
                    self.assertFalse(isinstance(node.value, str) and "%" in node.value, where)
                if isinstance(node, ast.Call) and isinstance(node.func, ast.Attribute):
                    self.assertIn(node.func.attr, METHODS | own, where)
                if isinstance(node, ast.Attribute):
                    self.assertNotIn(node.attr, BARRED, where)

    def test_values_at_module_level(self):
        for path, tree in trees():
            for node in tree.body:
                if isinstance(node, ast.Assign):
                    self.assertTrue(len(node.targets) == 1 and isinstance(node.targets[0], ast.Name), path)
                    # Tables may hold functions that are defined above.
                    names = [inner.id for inner in ast.walk(node.value) if isinstance(inner, ast.Name)]
                    self.assertTrue(not names or isinstance(node.value, (ast.Dict, ast.List, ast.Tuple)), path)
                    above = [inner.name for inner in tree.body[:tree.body.index(node)]
                             if isinstance(inner, ast.FunctionDef)]
                    self.assertFalse(set(names) - set(above), path)

    def test_tables_at_module_level_are_only_read(self):
        tables = {}
        for path, tree in trees():
            tables[path] = {node.targets[0].id for node in tree.body
                            if isinstance(node, ast.Assign) and isinstance(node.value, (ast.Dict, ast.List))}
        named = {name for names in tables.values() for name in names}
        for path, tree in trees():
            above = parents(tree)
            for node in ast.walk(tree):
                if isinstance(node, ast.Name) and node.id in named and isinstance(node.ctx, ast.Load):
                    over = above[node]
                    read = isinstance(over, ast.Subscript) and over.value is node and isinstance(over.ctx, ast.Load)
                    held = isinstance(over, ast.Compare) and isinstance(over.ops[0], (ast.In, ast.NotIn))
                    copied = isinstance(over, ast.Call) and over.func.id in ("dict", "list", "sorted", "len")
                    self.assertTrue(read or held or copied, (path, node.lineno))

    def test_names_of_imports_and_classes_are_bound_once(self):
        for path, tree in trees():
            imported = [name.name for node in tree.body if isinstance(node, ast.ImportFrom) for name in node.names]
            classes = [node.name for node in tree.body if isinstance(node, ast.ClassDef)]
            bound = list(bound_names(tree))
            for name in imported:
                self.assertEqual(bound.count(name) + imported.count(name), 1, (path, name))
            for name in classes:
                self.assertEqual(bound.count(name), 1, (path, name))
            top = [node.name for node in tree.body if isinstance(node, (ast.FunctionDef, ast.ClassDef))]
            self.assertEqual(len(top), len(set(top)), path)

    def test_no_imports_in_a_ring(self):
        ahead = {path.stem: {node.module.split(".")[-1] for node in tree.body if isinstance(node, ast.ImportFrom)}
                 for path, tree in trees()}
        while ahead:
            free = [name for name in ahead if not ahead[name] & set(ahead)]
            self.assertTrue(free, ahead)
            for name in free:
                del ahead[name]

    def test_methods_and_attributes_of_one_class(self):
        for path, tree in trees():
            for node in ast.walk(tree):
                if isinstance(node, ast.ClassDef):
                    methods = [inner.name for inner in node.body if isinstance(inner, ast.FunctionDef)]
                    held = {inner.attr for inner in ast.walk(node)
                            if isinstance(inner, ast.Attribute) and isinstance(inner.ctx, ast.Store)}
                    self.assertEqual(len(methods), len(set(methods)), (path, node.name))
                    self.assertFalse(set(methods) & held, (path, node.name))

    def test_iterated_at_once(self):
        for path, tree in trees():
            above = parents(tree)
            for node in calls_of(tree, {"zip", "enumerate", "reversed", "range"}):
                over = above[node]
                loop = isinstance(over, (ast.For, ast.comprehension)) and over.iter is node
                call = isinstance(over, ast.Call) and isinstance(over.func, ast.Name) and over.args[:1] == [node]
                self.assertTrue(loop or (call and over.func.id in GOES_OVER), (path, node.lineno))
            for node in calls_of(tree, {"set"}):
                over = above[node]
                self.assertTrue(isinstance(over, ast.Call) and over.func.id in ("sorted", "len"), (path, node.lineno))

    def test_what_classes_with_operators_ask_for(self):
        for path, tree in trees():
            for node in ast.walk(tree):
                where = path, getattr(node, "lineno", 0)
                # Where a class has __eq__, any, sum and their kin take lists.
                self.assertNotIsInstance(node, ast.GeneratorExp, where)
                self.assertFalse(isinstance(node, ast.Attribute) and node.attr == "sort", where)

    def test_keywords_powers_and_identity(self):
        for path, tree in trees():
            for node in calls_of(tree, set(dir(builtins))):
                told = {keyword.arg for keyword in node.keywords}
                self.assertFalse(told - KEYWORDS.get(node.func.id, set()), (path, node.lineno))
            for node in ast.walk(tree):
                where = path, getattr(node, "lineno", 0)
                if isinstance(node, ast.BinOp) and isinstance(node.op, ast.Pow):
                    self.assertTrue(isinstance(node.right, ast.Constant) and 0 <= node.right.value <= 64, where)
                if isinstance(node, ast.Compare) and isinstance(node.ops[0], (ast.Is, ast.IsNot)):
                    self.assertIsInstance(node.comparators[0], ast.Constant, where)

    def test_operators_and_properties_change_nothing(self):
        for path, node in run_by_operators():
            taken = {arg.arg for arg in node.args.args}
            made = new_values(node)
            for inner in ast.walk(node):
                where = path, getattr(inner, "lineno", 0)
                self.assertNotIsInstance(inner, (ast.Lambda, ast.Yield, ast.YieldFrom, ast.Delete, ast.Nonlocal), where)
                if isinstance(inner, ast.Call):
                    # It calls nothing that it is passed or holds, nor anything out of a list.
                    self.assertNotIsInstance(inner.func, (ast.Subscript, ast.Call), where)
                    self.assertFalse(isinstance(inner.func, ast.Name) and inner.func.id in taken, where)
                    if isinstance(inner.func, ast.Attribute) and inner.func.attr in MODIFYING:
                        self.assertTrue(isinstance(inner.func.value, ast.Name) and inner.func.value.id in made, where)
                if isinstance(inner, ast.AugAssign):
                    plain = isinstance(inner.value, ast.Constant) and isinstance(inner.value.value, int)
                    self.assertTrue(isinstance(inner.target, ast.Name) and plain, where)
                if isinstance(inner, ast.Subscript) and isinstance(inner.ctx, ast.Store):
                    self.assertTrue(isinstance(inner.value, ast.Name) and inner.value.id in made, where)
                if isinstance(inner, ast.Attribute) and isinstance(inner.ctx, ast.Store):
                    self.assertTrue(node.name == "__init__" and inner.value.id == "self", where)

    def test_new_values_are_assigned_by_statements_of_their_own(self):
        rows = {
            "found = []": {"found"}, "found = [k for k in low]": {"found"}, "found = list(low)": {"found"},
            "found = {}": {"found"}, "found = []; found = [low]": {"found"}, "found = []; begin = low": {"found"},
            "found, begin = [], low": set(), "found, begin = [], []": set(), "(found, begin) = rows = [], {}": set(),
            "found = rows = []": set(), "found = low": set(), "found = []; found = low": set(),
            "found = []; found += low": set(), "found = []; found, _ = low": set(), "low = []": set(),
            "found = []\n for found in low: pass": set(), "found = []; rows = [0 for found in low]": {"rows"}}
        for text, names in rows.items():
            self.assertEqual(new_values(ast.parse(f"def told(low):\n {text}").body[0]), names, text)

    def test_decorators_stand_over_methods_alone(self):
        for path, tree in trees():
            methods = [inner for node in tree.body if isinstance(node, ast.ClassDef) for inner in node.body]
            for node in ast.walk(tree):
                if isinstance(node, ast.FunctionDef) and node.decorator_list:
                    self.assertIn(node, methods, path)
                    self.assertEqual([name.id for name in node.decorator_list], ["property"], path)
                    self.assertEqual([arg.arg for arg in node.args.args], ["self"], path)
                self.assertFalse(isinstance(node, ast.ClassDef) and node.decorator_list, path)

    def test_names_of_methods_and_properties(self):
        values = {name for kind in (str, int, list, dict, set, bytes) for name in dir(kind)}
        allowed = {"add", "discard"}
        for path, tree in trees():
            for node in ast.walk(tree):
                if isinstance(node, ast.ClassDef):
                    own = {inner.name for inner in node.body if isinstance(inner, ast.FunctionDef)}
                    self.assertFalse((own & values) - allowed - OWN_DOUBLE, (path, node.name))

    def test_generators_and_sets_are_not_kept(self):
        for path, tree in trees():
            for node in ast.walk(tree):
                self.assertNotIsInstance(node, (ast.Yield, ast.YieldFrom, ast.Set, ast.SetComp), path)

    def test_calls_of_the_library(self):
        for path, tree in trees():
            names = {name.name for node in tree.body if isinstance(node, ast.ImportFrom) and node.module in LIBRARY
                     for name in node.names}
            called = [node.func for node in ast.walk(tree) if isinstance(node, ast.Call)]
            for node in ast.walk(tree):
                if isinstance(node, ast.Name) and node.id in names:
                    self.assertIn(node, called, (path, node.lineno))

    def test_one_lambda_on_a_line(self):
        for path, tree in trees():
            rows = [node.lineno for node in ast.walk(tree) if isinstance(node, ast.Lambda)]
            self.assertEqual(len(rows), len(set(rows)), path)


if __name__ == "__main__":
    unittest.main()

"""Those rules of LANGUAGE.md that a walk over the package's files can see at once."""

import ast
import builtins
import pathlib
import re
import unittest

FOLDER = pathlib.Path(__file__).resolve().parent.parent / "vouchchains"
PATHS = sorted(path for path in FOLDER.rglob("*") if "__pycache__" not in path.parts)

# Where examples are tried, Python keeps the last answer there under the name _.
BUILTINS = set(dir(builtins)) - {"_"}

ALLOWED_BUILTINS = set("""
    len range enumerate zip min max sum abs sorted reversed int str bool list tuple dict set
    isinstance ord repr any all divmod map iter next property staticmethod classmethod
    ValueError TypeError KeyError IndexError LookupError ZeroDivisionError NotImplemented
""".split())

ALLOWED_METHODS = set("""
    __init__ __eq__ __repr__ __str__ __len__ __call__ __iter__ __and__ __or__ __sub__ __add__
    __mul__ __invert__ __bool__ __contains__
""".split())

LIBRARY = {
    "heapq": {"heappush", "heappop", "heapify", "heapreplace", "heappushpop"},
    "math": {"gcd", "lcm", "isqrt", "comb", "perm", "factorial"},
    "itertools": {"product", "combinations", "permutations", "chain", "accumulate", "pairwise",
                  "islice", "zip_longest"},
    "collections": {"defaultdict", "deque"},
}

BARRED_NAMES = set("""
    register mro elements open input law version_info with_traceback add_note breakpoint compile
    dir eval exec exit globals help id locals os quit super type vars float complex print hash
""".split())

BARRED_WORDS = set("""
    typing typing_extensions enum Enum IntEnum StrEnum Flag IntFlag Generic Protocol ABC ABCMeta
    namedtuple NamedTuple TypedDict TYPE_CHECKING abstractmethod dataclass overload contextmanager
    _wall _WallAttr
""".split())

# The methods of strings, lists, dicts and sets that may be called.
PLAIN_METHODS = set("""
    append clear copy count endswith extend find get index insert isalnum isalpha isdigit islower
    isspace isupper items join keys ljust lower lstrip partition pop remove replace reverse rfind
    rjust rpartition rsplit rstrip setdefault split splitlines startswith strip update upper values
    zfill bit_length add discard
""".split())

STATEMENTS = (ast.Expr, ast.ImportFrom, ast.FunctionDef, ast.ClassDef, ast.Assign)
BARRED_NODES = (ast.Div, ast.AsyncFunctionDef, ast.Await, ast.GeneratorExp, ast.Import,
                ast.TryStar, ast.MatMult, ast.Global)


def parsed(path):
    return ast.parse(path.read_text(encoding="utf-8"))


def parents(tree):
    return {child: node for node in ast.walk(tree) for child in ast.iter_child_nodes(node)}


def docstrings(tree):
    """The constants that are docstrings."""
    found = []
    for node in ast.walk(tree):
        if isinstance(node, (ast.Module, ast.ClassDef, ast.FunctionDef)) and node.body:
            first = node.body[0]
            if isinstance(first, ast.Expr) and isinstance(first.value, ast.Constant):
                found.append(first.value)
    return found


def called(node):
    """The bare name that is called, or None."""
    named = isinstance(node, ast.Call) and isinstance(node.func, ast.Name)
    return node.func.id if named else None


def bound(tree):
    """All names that a file binds anywhere, methods left out."""
    found = [node.id for node in ast.walk(tree)
             if isinstance(node, ast.Name) and not isinstance(node.ctx, ast.Load)]
    found += [node.arg for node in ast.walk(tree) if isinstance(node, ast.arg)]
    found += [node.name for node in tree.body if isinstance(node, (ast.FunctionDef, ast.ClassDef))]
    return found


class Language(unittest.TestCase):

    def test_files(self):
        self.assertIn(FOLDER / "__init__.py", PATHS)
        for path in PATHS:
            self.assertEqual(path.suffix, ".py")
            self.assertEqual(path.name, path.name.lower())

    def test_lines_and_characters(self):
        for path in PATHS:
            text = path.read_text(encoding="utf-8")
            self.assertTrue(all(sign == "\n" or " " <= sign <= "~" for sign in text), path)
            lines = text.splitlines()
            self.assertLessEqual(len(lines), 399, path)
            self.assertLessEqual(max(len(line) for line in lines), 120, path)

    def test_functions_are_short(self):
        for path in PATHS:
            for node in ast.walk(parsed(path)):
                if isinstance(node, ast.FunctionDef):
                    self.assertLessEqual(node.end_lineno - node.lineno + 1, 40, (path, node.name))

    def test_statements_at_module_level(self):
        for path in PATHS:
            for node in parsed(path).body:
                self.assertIsInstance(node, STATEMENTS, (path, node.lineno))
                if isinstance(node, ast.Expr):
                    self.assertIsInstance(node.value, ast.Constant, (path, node.lineno))

    def test_nodes_that_are_barred(self):
        for path in PATHS:
            for node in ast.walk(parsed(path)):
                self.assertNotIsInstance(node, BARRED_NODES, path)
                if isinstance(node, ast.Constant):
                    self.assertNotIsInstance(node.value, (float, complex), path)

    def test_imports_name_the_file_that_defines_the_name(self):
        for path in PATHS:
            for node in ast.walk(parsed(path)):
                if isinstance(node, ast.ImportFrom):
                    names = [alias.name for alias in node.names]
                    self.assertTrue(all(alias.asname is None for alias in node.names))
                    self.assertEqual(set(names) - self.offered(node.module), set(), path)

    def test_each_import_is_used(self):
        for path in PATHS:
            tree = parsed(path)
            names = {node.id for node in ast.walk(tree) if isinstance(node, ast.Name)}
            for node in tree.body:
                if isinstance(node, ast.ImportFrom):
                    self.assertEqual({alias.name for alias in node.names} - names, set(), path)

    def offered(self, home):
        if home in LIBRARY:
            return LIBRARY[home]
        folder, name = home.split(".")
        self.assertEqual(folder, "vouchchains")
        tree = parsed(FOLDER / (name + ".py"))
        found = {node.name for node in tree.body if isinstance(node, (ast.FunctionDef, ast.ClassDef))}
        return found | {node.targets[0].id for node in tree.body if isinstance(node, ast.Assign)}

    def test_no_two_files_import_from_each_other(self):
        left = {}
        for path in PATHS:
            homes = [node.module for node in parsed(path).body if isinstance(node, ast.ImportFrom)]
            left["vouchchains." + path.stem] = {home for home in homes if home not in LIBRARY}
        while left:
            free = [home for home, needs in left.items() if not needs & set(left)]
            self.assertTrue(free, left)
            for home in free:
                del left[home]

    def test_builtins(self):
        for path in PATHS:
            tree = parsed(path)
            for node in ast.walk(tree):
                if isinstance(node, ast.Name) and node.id in BUILTINS:
                    self.assertIn(node.id, ALLOWED_BUILTINS, (path, node.lineno))
            for name in bound(tree):
                self.assertFalse(name in BUILTINS or name in BARRED_NAMES, (path, name))

    def test_words_that_are_barred(self):
        for path in PATHS:
            words = re.findall("[A-Za-z0-9_]+", path.read_text(encoding="utf-8"))
            self.assertEqual(set(words) & BARRED_WORDS, set(), path)

    def test_no_parameter_or_variable_hides_a_class_or_an_import(self):
        for path in PATHS:
            tree = parsed(path)
            taken = {node.name for node in tree.body if isinstance(node, ast.ClassDef)}
            for node in tree.body:
                if isinstance(node, ast.ImportFrom):
                    taken.update(alias.name for alias in node.names)
            inner = [node.arg for node in ast.walk(tree) if isinstance(node, ast.arg)]
            inner += [node.id for node in ast.walk(tree)
                      if isinstance(node, ast.Name) and not isinstance(node.ctx, ast.Load)]
            self.assertEqual(taken & set(inner), set(), path)

    def test_double_underscores_and_decorators(self):
        for path in PATHS:
            tree = parsed(path)
            above = parents(tree)
            for node in ast.walk(tree):
                if isinstance(node, ast.FunctionDef):
                    if node.name.startswith("__"):
                        self.assertIn(node.name, ALLOWED_METHODS, path)
                    for mark in node.decorator_list:
                        self.assertIsInstance(above[node], ast.ClassDef)
                        self.assertIn(mark.id, ("property", "classmethod", "staticmethod"))
                if isinstance(node, ast.ClassDef):
                    self.assertEqual(node.decorator_list, [])

    def members(self):
        """(methods, properties, attributes): the names that the classes of the package give."""
        methods, properties, attributes = set(), set(), set()
        for path in PATHS:
            for node in ast.walk(parsed(path)):
                if isinstance(node, ast.Attribute) and isinstance(node.ctx, ast.Store):
                    attributes.add(node.attr)
                if isinstance(node, ast.ClassDef):
                    for inner in node.body:
                        if isinstance(inner, ast.FunctionDef):
                            marks = [mark.id for mark in inner.decorator_list]
                            (properties if "property" in marks else methods).add(inner.name)
        return (methods, properties, attributes)

    def test_properties_are_neither_methods_nor_attributes(self):
        methods, properties, attributes = self.members()
        self.assertEqual(properties & (methods | attributes | PLAIN_METHODS), set())
        self.assertEqual(attributes & PLAIN_METHODS, set())

    def test_methods_that_are_called(self):
        methods = self.members()[0]
        for path in PATHS:
            for node in ast.walk(parsed(path)):
                if isinstance(node, ast.Call) and isinstance(node.func, ast.Attribute):
                    self.assertIn(node.func.attr, methods | PLAIN_METHODS, (path, node.lineno))

    def test_attributes_that_are_read(self):
        known = set().union(*self.members()) | PLAIN_METHODS
        for path in PATHS:
            for node in ast.walk(parsed(path)):
                if isinstance(node, ast.Attribute):
                    self.assertIn(node.attr, known, (path, node.lineno))

    def test_what_is_iterated_at_once(self):
        taking = ("list", "tuple", "dict", "sorted", "sum", "any", "all", "enumerate", "zip", "min",
                  "max", "len")
        for path in PATHS:
            tree = parsed(path)
            above = parents(tree)
            for node in ast.walk(tree):
                if isinstance(node, ast.Call) and isinstance(node.func, ast.Attribute):
                    name = node.func.attr if node.func.attr in ("items", "keys", "values") else None
                else:
                    name = called(node)
                if name in ("zip", "enumerate", "range", "reversed", "items", "keys", "values"):
                    outer = above[node]
                    iterated = isinstance(outer, (ast.For, ast.comprehension)) and outer.iter is node
                    self.assertTrue(iterated or called(outer) in taking, (path, node.lineno))

    def test_is_stands_beside_none_true_and_false(self):
        for path in PATHS:
            for node in ast.walk(parsed(path)):
                if isinstance(node, ast.Compare):
                    for sign, right in zip(node.ops, node.comparators):
                        if isinstance(sign, (ast.Is, ast.IsNot)):
                            self.assertIsInstance(right, ast.Constant, (path, node.lineno))

    def test_sets_stand_where_they_may(self):
        for path in PATHS:
            tree = parsed(path)
            above = parents(tree)
            for node in ast.walk(tree):
                if isinstance(node, (ast.Set, ast.SetComp)) or called(node) == "set":
                    outer = above[node]
                    while isinstance(outer, ast.BinOp):
                        outer = above[outer]
                    fits = (called(outer) in ("sorted", "len") or isinstance(outer, ast.Compare)
                            or (isinstance(outer, ast.Assign) and outer.value is node))
                    self.assertTrue(fits, (path, node.lineno))

    def test_no_percent_sign_in_a_string(self):
        for path in PATHS:
            tree = parsed(path)
            spared = docstrings(tree)
            for node in ast.walk(tree):
                if isinstance(node, ast.Constant) and isinstance(node.value, str):
                    self.assertTrue(node in spared or "%" not in node.value, (path, node.lineno))


if __name__ == "__main__":
    unittest.main()

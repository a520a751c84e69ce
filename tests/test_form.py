"""What can be seen of the rules of the language in the files of the package."""

import ast
import importlib
import pathlib
import re
import unittest
import warnings

FOLDER = pathlib.Path(__file__).resolve().parent.parent / "pagewise"
LIBRARY = {"heapq": ("heappush", "heappop", "heapify", "heapreplace", "heappushpop"),
           "math": ("gcd", "lcm", "isqrt", "comb", "perm", "factorial"),
           "itertools": ("product", "combinations", "permutations")}
BUILTINS = set("""len range enumerate zip min max sum abs sorted reversed int str bool bytes list tuple dict set frozenset
    isinstance ord repr any all divmod map iter next super Exception ValueError TypeError KeyError IndexError LookupError
    ZeroDivisionError ArithmeticError OverflowError RuntimeError NotImplementedError AttributeError StopIteration
    NotImplemented property classmethod staticmethod""".split())
METHODS = set("""append clear copy count endswith extend find get index insert isalnum isalpha isdigit islower isspace
    isupper items join keys ljust lower lstrip partition pop remove replace reverse rfind rjust rpartition rsplit rstrip
    setdefault split splitlines startswith strip update upper values zfill bit_length sort add discard title capitalize
    swapcase casefold center expandtabs removeprefix removesuffix rindex isascii isdecimal isnumeric istitle isidentifier
    isprintable translate encode decode hex __init__""".split())
DUNDERS = set("""__init__ __eq__ __repr__ __str__ __len__ __enter__ __exit__ __call__ __iter__ __lt__ __le__ __gt__ __ge__
    __ne__ __add__ __sub__ __mul__ __and__ __or__ __ror__ __xor__ __neg__ __pos__ __invert__ __abs__ __bool__ __contains__
    __getitem__ __setitem__""".split())
BARRED_NAMES = set("""register mro elements open input law version_info with_traceback add_note attrgetter breakpoint
    builtins compile copyright credits delattr dir eval exec exit gc getattr globals hasattr help id importlib license
    locals methodcaller os quit setattr type vars sys hash map round iter next filter format object print""".split())
BARRED_WORDS = re.compile(r"\b(type|typing|enum|Enum|IntEnum|Flag|Generic|Protocol|ABC|ABCMeta|namedtuple|NamedTuple|"
                          r"TypedDict|abstractmethod)\b|dataclass|overload|contextmanager|_wall|_WallAttr")
BARRED_NODES = (ast.Global, ast.AsyncFunctionDef, ast.AsyncFor, ast.AsyncWith, ast.Await, ast.Div, ast.Import,
                ast.GeneratorExp, ast.AnnAssign)
INTERFACE = {
    "pagewise.errors": "PageError InvalidQuery InvalidTables InvalidOrder InvalidRow InvalidKey InvalidOperation "
                       "InvalidEdit ParseError InvalidCommand InvalidNumber UnknownName TooMany Unsorted NothingToUndo",
    "pagewise.base.rows": "is_name is_row before sorted_rows place_of",
    "pagewise.queries.queries": "Query",
    "pagewise.tables.tables": "is_tables tables_from tables_by values_of chosen chosen_by",
    "pagewise.tables.answers": "solutions answers count_answers is_answer",
    "pagewise.shapes.neighbours": "neighbours home home_of parts way",
    "pagewise.shapes.rings": "is_ring rings is_shell shells",
    "pagewise.shapes.witnesses": "is_bridge bridges is_trio trios witness is_witness witnesses",
}


def files():
    return sorted(FOLDER.rglob("*.py"))


def trees():
    return [(path, ast.parse(path.read_text())) for path in files()]


def module_name(path):
    parts = path.relative_to(FOLDER.parent).with_suffix("").parts
    return ".".join(parts[:-1] if parts[-1] == "__init__" else parts)


def assigned_names(tree):
    """All names that a file gives a meaning to, but for attributes."""
    for node in ast.walk(tree):
        if isinstance(node, (ast.FunctionDef, ast.ClassDef)):
            yield node.name
        elif isinstance(node, ast.arg):
            yield node.arg
        elif isinstance(node, ast.Name) and isinstance(node.ctx, ast.Store):
            yield node.id


def local_names(function):
    return {node.id for node in ast.walk(function) if isinstance(node, ast.Name) and isinstance(node.ctx, ast.Store)} | {
        node.arg for node in ast.walk(function) if isinstance(node, ast.arg)}


class Files(unittest.TestCase):
    def test_the_folder_has_nothing_else(self):
        for path in FOLDER.rglob("*"):
            if path.is_dir():
                self.assertTrue(path.name == "__pycache__" or (path / "__init__.py").exists(), path)
            elif path.parent.name != "__pycache__":
                self.assertRegex(path.name, r"^[a-z_][a-z0-9_]*\.py$")

    def test_size_and_characters(self):
        for path in files():
            text = path.read_bytes().decode("ascii")
            self.assertTrue(all(" " <= letter <= "~" or letter == "\n" for letter in text), path)
            lines = text.split("\n")
            self.assertLessEqual(len(lines), 399, path)
            self.assertLessEqual(max(map(len, lines)), 120, path)
            self.assertIsNone(BARRED_WORDS.search(re.sub(r'"""[^"]*"""|#.*', "", text)), path)

    def test_functions_are_small(self):
        for path, tree in trees():
            for node in ast.walk(tree):
                if isinstance(node, ast.FunctionDef):
                    self.assertLessEqual(node.end_lineno - node.lineno + 1, 40, (path, node.name))

    def test_no_warnings(self):
        with warnings.catch_warnings():
            warnings.simplefilter("error")
            for path in files():
                compile(path.read_text(), str(path), "exec")


class Imports(unittest.TestCase):
    def test_imports_name_the_very_file(self):
        for path, tree in trees():
            for node in ast.walk(tree):
                if isinstance(node, ast.ImportFrom):
                    self.assertEqual(node.level, 0, path)
                    self.check_import(path, node)

    def check_import(self, path, node):
        for alias in node.names:
            self.assertIsNone(alias.asname, path)
            if node.module in LIBRARY:
                self.assertIn(alias.name, LIBRARY[node.module], path)
            else:
                self.assertTrue(node.module.startswith("pagewise"), path)
                made = getattr(importlib.import_module(node.module), alias.name)
                self.assertEqual(getattr(made, "__module__", node.module), node.module, path)

    def test_no_circles(self):
        needs = {module_name(path): {node.module for node in tree.body if isinstance(node, ast.ImportFrom)}
                 for path, tree in trees()}
        while needs:
            free = [name for name in needs if not needs[name] & set(needs)]
            self.assertTrue(free, needs)
            needs = {name: needs[name] for name in needs if name not in free}

    def test_interface_is_defined_in_its_files(self):
        for name, words in INTERFACE.items():
            for word in words.split():
                self.assertEqual(getattr(importlib.import_module(name), word).__module__, name)


class Statements(unittest.TestCase):
    def test_module_level(self):
        kinds = (ast.ImportFrom, ast.FunctionDef, ast.ClassDef, ast.Assign)
        for path, tree in trees():
            for at, node in enumerate(tree.body):
                docstring = at == 0 and isinstance(node, ast.Expr) and isinstance(node.value, ast.Constant)
                self.assertTrue(docstring or isinstance(node, kinds), (path, node.lineno))

    def test_no_barred_statements(self):
        for path, tree in trees():
            for node in ast.walk(tree):
                self.assertNotIsInstance(node, BARRED_NODES, (path, getattr(node, "lineno", 0)))
                if isinstance(node, ast.Constant):
                    self.assertNotIsInstance(node.value, float, (path, node.lineno))

    def test_decorators(self):
        for path, tree in trees():
            for node in ast.walk(tree):
                for one in getattr(node, "decorator_list", []):
                    self.assertRegex(ast.unparse(one), r"^(property|classmethod|staticmethod|\w+\.setter)$", path)

    def test_names(self):
        for path, tree in trees():
            for name in assigned_names(tree):
                self.assertTrue(name not in BARRED_NAMES | BUILTINS, (path, name))
                self.assertTrue(not name.startswith("__") or name in DUNDERS, (path, name))

    def test_locals_and_imports_differ(self):
        for path, tree in trees():
            taken = {alias.name for node in tree.body if isinstance(node, ast.ImportFrom) for alias in node.names}
            taken |= {node.name for node in tree.body if isinstance(node, ast.ClassDef)}
            for node in ast.walk(tree):
                if isinstance(node, ast.FunctionDef):
                    self.assertEqual(local_names(node) & taken, set(), (path, node.name))


class Calls(unittest.TestCase):
    def test_builtins_and_methods(self):
        own = {node.name for _, tree in trees() for node in ast.walk(tree) if isinstance(node, ast.FunctionDef)}
        for path, tree in trees():
            known = set(assigned_names(tree)) | BUILTINS
            known |= {alias.name for node in ast.walk(tree) if isinstance(node, ast.ImportFrom) for alias in node.names}
            for node in ast.walk(tree):
                if isinstance(node, ast.Name):
                    self.assertIn(node.id, known, (path, node.lineno))
                elif isinstance(node, ast.Call) and isinstance(node.func, ast.Attribute):
                    self.assertIn(node.func.attr, METHODS | own, (path, node.lineno))

    def test_generators_have_names_of_their_own(self):
        functions = [node for _, tree in trees() for node in ast.walk(tree) if isinstance(node, ast.FunctionDef)]
        for one in functions:
            if any(isinstance(node, (ast.Yield, ast.YieldFrom)) for node in ast.walk(one)):
                self.assertEqual([other.lineno for other in functions if other.name == one.name], [one.lineno])


if __name__ == "__main__":
    unittest.main()

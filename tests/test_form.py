"""What can be seen of the rules of the language in the files of the package."""

import ast
import importlib
import pathlib
import re
import unittest
import warnings

FOLDER = pathlib.Path(__file__).resolve().parent.parent / "pagewise"
LIBRARY = {"heapq": ("heappush", "heappop", "heapify", "heapreplace", "heappushpop"),
           "math": ("gcd", "lcm", "isqrt", "comb", "perm", "factorial"),
           "itertools": ("product", "combinations", "permutations")}
BUILTINS = set("""len range enumerate zip min max sum abs sorted reversed int str bool bytes list tuple dict set frozenset
    isinstance ord repr any all divmod map iter next super Exception ValueError TypeError KeyError IndexError LookupError
    ZeroDivisionError ArithmeticError OverflowError RuntimeError NotImplementedError AttributeError StopIteration
    NotImplemented property classmethod staticmethod""".split())
METHODS = set("""append clear copy count endswith extend find get index insert isalnum isalpha isdigit islower isspace
    isupper items join keys ljust lower lstrip partition pop remove replace reverse rfind rjust rpartition rsplit rstrip
    setdefault split splitlines startswith strip update upper values zfill bit_length sort add discard title capitalize
    swapcase casefold center expandtabs removeprefix removesuffix rindex isascii isdecimal isnumeric istitle isidentifier
    isprintable translate encode decode hex __init__""".split())
DUNDERS = set("""__init__ __eq__ __repr__ __str__ __len__ __enter__ __exit__ __call__ __iter__ __lt__ __le__ __gt__ __ge__
    __ne__ __add__ __sub__ __mul__ __and__ __or__ __ror__ __xor__ __neg__ __pos__ __invert__ __abs__ __bool__ __contains__
    __getitem__ __setitem__""".split())
BARRED_NAMES = set("""register mro elements open input law version_info with_traceback add_note attrgetter breakpoint
    builtins compile copyright credits delattr dir eval exec exit gc getattr globals hasattr help id importlib license
    locals methodcaller os quit setattr type vars sys hash map round iter next filter format object print""".split())
BARRED_WORDS = re.compile(r"\b(type|typing|enum|Enum|IntEnum|Flag|Generic|Protocol|ABC|ABCMeta|namedtuple|NamedTuple|"
                          r"TypedDict|abstractmethod)\b|dataclass|overload|contextmanager|_wall|_WallAttr")
BARRED_NODES = (ast.Global, ast.AsyncFunctionDef, ast.AsyncFor, ast.AsyncWith, ast.Await, ast.Div, ast.Import,
                ast.GeneratorExp, ast.AnnAssign)
INTERFACE = {
    "pagewise.errors": "PageError InvalidQuery InvalidTables InvalidOrder InvalidRow InvalidKey InvalidOperation "
                       "InvalidEdit ParseError InvalidCommand InvalidNumber UnknownName TooMany Unsorted NothingToUndo",
    "pagewise.base.rows": "is_name is_row before sorted_rows place_of",
    "pagewise.queries.queries": "Query",
    "pagewise.tables.tables": "is_tables tables_from tables_by values_of chosen chosen_by",
    "pagewise.tables.answers": "solutions answers count_answers is_answer",
    "pagewise.shapes.neighbours": "neighbours home home_of parts way",
    "pagewise.shapes.rings": "is_ring rings is_shell shells",
    "pagewise.shapes.witnesses": "is_bridge bridges is_trio trios witness is_witness witnesses",
    "pagewise.orders.good": "is_good homes good_order good_orders order_paper is_order_paper",
    "pagewise.orders.beginnings": "completed beginning_paper is_beginning_paper sort_orders count_sort_orders "
                                  "longest_beginning",
    "pagewise.layers.forests": "parents children ends layer_columns open_columns",
    "pagewise.layers.layers": "layers is_layers total",
    "pagewise.pages.pages": "Pages",
    "pagewise.pages.sums": "groups sum_of extremes tally middle cuts",
    "pagewise.live.live": "Live",
    "pagewise.live.cursors": "Cursor",
    "pagewise.problems.products": "product product_tables product_by",
    "pagewise.problems.closed": "closed_row full_choice closed_tables",
    "pagewise.tables.reduced": "agree reduced is_reduced any_solution count_solutions clashing",
    "pagewise.keys.keys": "is_key holds_key grown grown_tables shown_part KeyedPages",
    "pagewise.desk.desk": "Desk",
    "pagewise.text.formats": "format_query parse_query format_row parse_row format_tables parse_tables format_order "
                             "parse_order format_paper parse_paper format_key parse_key",
    "pagewise.text.selects": "Select",
    "pagewise.text.shell": "Shell",
}
METHODS_OF = {
    "pagewise.queries.queries.Query": "of shown down atoms columns hidden atom having with_atom with_atom_of without_atom "
                                      "with_shown with_shown_of renamed renamed_by __or__ __invert__ __contains__ __len__ "
                                      "__str__ __eq__",
    "pagewise.pages.pages.Pages": "query tables order total __bool__ __getitem__ __contains__ position_of after ahead_of "
                                  "between span starts page walk __eq__ __str__",
    "pagewise.live.live.Live": "query tables total steps log put drop change undo redo __getitem__ __contains__ "
                               "position_of pages trial attempt __eq__ __str__",
    "pagewise.live.live.Trial": "keep __enter__ __exit__",
    "pagewise.live.cursors.Cursor": "anchor row position onward back at to to_end take rest twin __eq__ __str__",
    "pagewise.keys.keys.KeyedPages": "query tables total grown __getitem__ __contains__ position_of after ahead_of span "
                                     "page __eq__",
    "pagewise.desk.desk.Desk": "do do_all undo redo names tables views steps kept keep __contains__ __len__ width pages "
                               "paper total_of trial attempt twin __eq__ __str__",
    "pagewise.desk.desk.DeskTrial": "__enter__ __exit__",
    "pagewise.text.selects.Select": "read written query fixed same size offset tables_for __call__ rows total_for __eq__ "
                                    "__str__",
    "pagewise.text.shell.Shell": "run run_all desk log __len__",
}
BARRED_ATTRIBUTES = set("""items keys values pop update append clear extend insert remove reverse setdefault sort args encode
    decode hex fromhex format""".split())
CHANGING = set("append clear extend insert pop remove reverse setdefault update sort add discard".split())
MAKING = set("list dict sorted".split())


def files():
    return sorted(FOLDER.rglob("*.py"))


def trees():
    return [(path, ast.parse(path.read_text())) for path in files()]


def module_name(path):
    parts = path.relative_to(FOLDER.parent).with_suffix("").parts
    return ".".join(parts[:-1] if parts[-1] == "__init__" else parts)


def assigned_names(tree):
    """All names that a file gives a meaning to, but for attributes."""
    for node in ast.walk(tree):
        if isinstance(node, (ast.FunctionDef, ast.ClassDef)):
            yield node.name
        elif isinstance(node, ast.arg):
            yield node.arg
        elif isinstance(node, ast.Name) and isinstance(node.ctx, ast.Store):
            yield node.id


def local_names(function):
    return {node.id for node in ast.walk(function) if isinstance(node, ast.Name) and isinstance(node.ctx, ast.Store)} | {
        node.arg for node in ast.walk(function) if isinstance(node, ast.arg)}


class Files(unittest.TestCase):
    def test_the_folder_has_nothing_else(self):
        for path in FOLDER.rglob("*"):
            if path.is_dir():
                self.assertTrue(path.name == "__pycache__" or (path / "__init__.py").exists(), path)
            elif path.parent.name != "__pycache__":
                self.assertRegex(path.name, r"^[a-z_][a-z0-9_]*\.py$")

    def test_size_and_characters(self):
        for path in files():
            text = path.read_bytes().decode("ascii")
            self.assertTrue(all(" " <= letter <= "~" or letter == "\n" for letter in text), path)
            lines = text.split("\n")
            self.assertLessEqual(len(lines), 399, path)
            self.assertLessEqual(max(map(len, lines)), 120, path)
            self.assertIsNone(BARRED_WORDS.search(re.sub(r'"""[^"]*"""|#.*', "", text)), path)

    def test_functions_are_small(self):
        for path, tree in trees():
            for node in ast.walk(tree):
                if isinstance(node, ast.FunctionDef):
                    self.assertLessEqual(node.end_lineno - node.lineno + 1, 40, (path, node.name))

    def test_no_warnings(self):
        with warnings.catch_warnings():
            warnings.simplefilter("error")
            for path in files():
                compile(path.read_text(), str(path), "exec")


class Imports(unittest.TestCase):
    def test_imports_name_the_very_file(self):
        for path, tree in trees():
            for node in ast.walk(tree):
                if isinstance(node, ast.ImportFrom):
                    self.assertEqual(node.level, 0, path)
                    self.check_import(path, node)

    def check_import(self, path, node):
        for alias in node.names:
            self.assertIsNone(alias.asname, path)
            if node.module in LIBRARY:
                self.assertIn(alias.name, LIBRARY[node.module], path)
            else:
                self.assertTrue(node.module.startswith("pagewise"), path)
                made = getattr(importlib.import_module(node.module), alias.name)
                self.assertEqual(getattr(made, "__module__", node.module), node.module, path)

    def test_no_circles(self):
        needs = {module_name(path): {node.module for node in tree.body if isinstance(node, ast.ImportFrom)}
                 for path, tree in trees()}
        while needs:
            free = [name for name in needs if not needs[name] & set(needs)]
            self.assertTrue(free, needs)
            needs = {name: needs[name] for name in needs if name not in free}

    def test_interface_is_defined_in_its_files(self):
        for name, words in INTERFACE.items():
            for word in words.split():
                self.assertEqual(getattr(importlib.import_module(name), word).__module__, name)


    def test_methods_stand_in_their_classes(self):
        for name, words in METHODS_OF.items():
            module, _, one = name.rpartition(".")
            own = vars(getattr(importlib.import_module(module), one))
            self.assertEqual([word for word in words.split() if word not in own], [], name)


class Statements(unittest.TestCase):
    def test_module_level(self):
        kinds = (ast.ImportFrom, ast.FunctionDef, ast.ClassDef, ast.Assign)
        for path, tree in trees():
            for at, node in enumerate(tree.body):
                docstring = at == 0 and isinstance(node, ast.Expr) and isinstance(node.value, ast.Constant)
                self.assertTrue(docstring or isinstance(node, kinds), (path, node.lineno))

    def test_no_barred_statements(self):
        for path, tree in trees():
            for node in ast.walk(tree):
                self.assertNotIsInstance(node, BARRED_NODES, (path, getattr(node, "lineno", 0)))
                if isinstance(node, ast.Constant):
                    self.assertNotIsInstance(node.value, float, (path, node.lineno))

    def test_decorators(self):
        for path, tree in trees():
            for node in ast.walk(tree):
                for one in getattr(node, "decorator_list", []):
                    self.assertRegex(ast.unparse(one), r"^(property|classmethod|staticmethod|\w+\.setter)$", path)

    def test_names(self):
        for path, tree in trees():
            for name in assigned_names(tree):
                self.assertTrue(name not in BARRED_NAMES | BUILTINS, (path, name))
                self.assertTrue(not name.startswith("__") or name in DUNDERS, (path, name))

    def test_locals_and_imports_differ(self):
        for path, tree in trees():
            taken = {alias.name for node in tree.body if isinstance(node, ast.ImportFrom) for alias in node.names}
            taken |= {node.name for node in tree.body if isinstance(node, ast.ClassDef)}
            for node in ast.walk(tree):
                if isinstance(node, ast.FunctionDef):
                    self.assertEqual(local_names(node) & taken, set(), (path, node.name))


class Calls(unittest.TestCase):
    def test_builtins_and_methods(self):
        own = {node.name for _, tree in trees() for node in ast.walk(tree) if isinstance(node, ast.FunctionDef)}
        for path, tree in trees():
            known = set(assigned_names(tree)) | BUILTINS
            known |= {alias.name for node in ast.walk(tree) if isinstance(node, ast.ImportFrom) for alias in node.names}
            for node in ast.walk(tree):
                if isinstance(node, ast.Name):
                    self.assertIn(node.id, known, (path, node.lineno))
                elif isinstance(node, ast.Call) and isinstance(node.func, ast.Attribute):
                    self.assertIn(node.func.attr, METHODS | own, (path, node.lineno))

    def test_generators_have_names_of_their_own(self):
        functions = [node for _, tree in trees() for node in ast.walk(tree) if isinstance(node, ast.FunctionDef)]
        for one in functions:
            if any(isinstance(node, (ast.Yield, ast.YieldFrom)) for node in ast.walk(one)):
                self.assertEqual([other.lineno for other in functions if other.name == one.name], [one.lineno])

    def test_attributes_have_names_of_their_own(self):
        methods = {node.name for _, tree in trees() for one in ast.walk(tree) if isinstance(one, ast.ClassDef)
                   for node in one.body if isinstance(node, ast.FunctionDef)}
        for path, tree in trees():
            for node in ast.walk(tree):
                if isinstance(node, ast.Attribute) and isinstance(node.ctx, ast.Store):
                    self.assertNotIn(node.attr, methods | BARRED_ATTRIBUTES, (path, node.lineno))

    def test_what_is_reversed_is_a_list_or_a_range(self):
        for path, tree in trees():
            for node in ast.walk(tree):
                if isinstance(node, ast.Call) and ast.unparse(node.func) == "reversed":
                    self.assertRegex(ast.unparse(node.args[0]), r"^(list|range)\(", (path, node.lineno))


class Purity(unittest.TestCase):
    """What operators and properties run changes nothing but lists and dicts that it makes itself."""

    def setUp(self):
        self.functions, self.methods = {}, {}
        for path, tree in trees():
            for one in tree.body:
                if isinstance(one, ast.FunctionDef):
                    self.functions.setdefault(one.name, []).append((path, one))
                for node in one.body if isinstance(one, ast.ClassDef) else ():
                    if isinstance(node, ast.FunctionDef):
                        self.methods.setdefault(node.name, []).append((path, node))

    def is_start(self, node):
        operator = node.name.startswith("__") and node.name not in ("__init__", "__enter__", "__exit__")
        return operator or any(ast.unparse(one) == "property" for one in node.decorator_list)

    def reached(self, function):
        """The functions and methods that a function can run, by their names."""
        for node in ast.walk(function):
            if isinstance(node, ast.Name):
                yield from self.functions.get(node.id, [])
            elif isinstance(node, ast.Attribute):
                yield from self.methods.get(node.attr, [])

    def test_nothing_is_changed(self):
        queue = [one for found in self.methods.values() for one in found if self.is_start(one[1])]
        seen = []
        while queue:
            path, node = queue.pop()
            if node not in seen:
                seen.append(node)
                self.check(path, node)
                queue.extend(self.reached(node))
        self.assertIn("answer_at", [node.name for node in seen])

    def check(self, path, function):
        passed = {one.arg for one in (*function.args.args, *function.args.kwonlyargs)} - {"cls"}
        made = {ast.unparse(node.targets[0]) for node in ast.walk(function) if isinstance(node, ast.Assign)
                and (isinstance(node.value, (ast.List, ast.Dict, ast.ListComp)) or isinstance(node.value, ast.Call)
                     and ast.unparse(node.value.func) in MAKING)}
        for node in ast.walk(function):
            where = (path, getattr(node, "lineno", 0))
            self.assertNotIsInstance(node, (ast.Lambda, ast.Delete, ast.Nonlocal), where)
            if isinstance(node, (ast.Attribute, ast.Subscript)):
                self.assertTrue(isinstance(node.ctx, ast.Load) or ast.unparse(node.value) in made, where)
            if isinstance(node, ast.AugAssign):
                self.assertIsInstance(node.value, ast.Constant, where)
            if isinstance(node, ast.Call) and isinstance(node.func, ast.Name):
                self.assertNotIn(node.func.id, passed, where)
            if isinstance(node, ast.Call) and isinstance(node.func, ast.Attribute) and node.func.attr in CHANGING:
                self.assertIn(ast.unparse(node.func.value), made, where)


if __name__ == "__main__":
    unittest.main()

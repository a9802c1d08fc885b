"""The files of the package keep to the parts of the language rules that are quick to check."""

import ast
import builtins
import pathlib
import re
import unittest

FOLDER = pathlib.Path(__file__).resolve().parent.parent / "surehouse"
FILES = sorted(path for path in FOLDER.rglob("*") if path.is_file() and "__pycache__" not in path.parts)

# What the interface lists under its modules.
INTERFACE = {
    "errors": ("ShopError", "BadCatalog", "BadOrder", "BadNumber", "BadItem", "BadName", "BadPrices", "BadBill",
               "BadAccounts", "BadEntries", "BadKey", "BadDeals", "BadEvent", "BadParcel", "TooLow", "BadLine"),
    "catalogs": ("is_catalog",),
    "bundles": ("made_of", "opened"),
    "promises": ("can_keep", "shows_can_keep"),
    "books": ("Book", "asked_all"),
    "waits": ("Waits",),
    "costs": ("cheapest", "shows_cheapest"),
    "shortage": ("best_kept", "shows_best_kept", "without", "closed", "if_closed"),
    "insured": ("insured", "is_sure", "mended", "SureBook"),
    "parcels": ("windows", "arrivals", "sheet", "left_after", "come"),
    "sums": ("shared", "stepped", "taxed", "net_of"),
    "bills": ("bill", "total_of", "refund", "refunds"),
    "ledgers": ("Ledger",),
    "worlds": ("World",),
    "audits": ("faults", "audit"),
    "schedules": ("reached", "replayed", "first_fault", "all_end"),
    "links": ("world_of", "done", "catalog_behind"),
    "shoptexts": ("write_catalog", "read_catalog", "write_order", "read_order"),
    "desk": ("Desk",),
}

# The methods and properties that the interface lists for a class stand in the class itself.
METHODS = {
    ("books", "Book"): ("ask", "cancel", "sends", "most", "earliest", "curve", "orders", "refusals"),
    ("waits", "Waits"): ("ask", "cancel", "promises", "row"),
    ("insured", "SureBook"): ("ask", "sends", "orders"),
    ("ledgers", "Ledger"): ("post", "turn_back", "balance", "as_of", "balances", "keys_told"),
    ("worlds", "World"): ("do", "can", "stage", "things", "coins", "finish", "log", "letters"),
    ("desk", "Desk"): ("read", "say"),
}

LIBRARY = {
    "heapq": ("heappush", "heappop", "heapify", "heapreplace", "heappushpop"),
    "math": ("gcd", "lcm", "isqrt", "comb", "perm", "factorial"),
    "itertools": ("product", "combinations", "permutations", "chain", "accumulate", "pairwise", "islice",
                  "zip_longest"),
    "collections": ("defaultdict",),
}
BUILTINS = (
    "len range enumerate zip min max sum abs sorted reversed int str bool bytes list tuple dict set isinstance ord "
    "repr any all divmod pow map iter next getattr hasattr setattr super property staticmethod classmethod object "
    "Exception ValueError TypeError KeyError IndexError LookupError ZeroDivisionError ArithmeticError OverflowError "
    "RuntimeError NotImplementedError AttributeError StopIteration NotImplemented"
).split()
BARRED_WORDS = (
    "typing typing_extensions enum Enum IntEnum StrEnum Flag IntFlag Generic Protocol ABC ABCMeta namedtuple "
    "NamedTuple TypedDict TYPE_CHECKING abstractmethod dataclass overload contextmanager"
).split()
BARRED_NODES = (ast.Global, ast.AsyncFunctionDef, ast.AsyncFor, ast.AsyncWith, ast.Await, ast.Import, ast.Div)
MODULE_LEVEL = (ast.ImportFrom, ast.FunctionDef, ast.ClassDef, ast.Assign)


def parsed(path):
    return ast.parse(path.read_text(encoding="utf-8"))


def names_defined(tree):
    """The names that a module's functions, classes, imports and assignments bind."""
    names = []
    for node in tree.body:
        if isinstance(node, (ast.FunctionDef, ast.ClassDef)):
            names.append(node.name)
        elif isinstance(node, ast.ImportFrom):
            names.extend(alias.asname or alias.name for alias in node.names)
        elif isinstance(node, ast.Assign):
            names.extend(target.id for target in node.targets)
    return names


def names_bound(tree):
    """All names that a file gives to functions, classes, parameters and variables."""
    names = [node.id for node in ast.walk(tree) if isinstance(node, ast.Name) and not isinstance(node.ctx, ast.Load)]
    names += [node.arg for node in ast.walk(tree) if isinstance(node, ast.arg)]
    names += [node.name for node in ast.walk(tree) if isinstance(node, (ast.FunctionDef, ast.ClassDef))
              and not node.name.startswith("__")]
    return names


class LanguageTest(unittest.TestCase):

    def each(self):
        return [(path, parsed(path)) for path in FILES]

    def test_plain_files(self):
        self.assertTrue(FILES)
        for path in FILES:
            self.assertRegex(path.name, r"\A[a-z0-9_]+\.py\Z")
            text = path.read_text(encoding="utf-8")
            self.assertLessEqual(len(text.splitlines()), 399, path.name)
            for number, line in enumerate(text.split("\n"), 1):
                self.assertLessEqual(len(line), 120, (path.name, number))
                self.assertTrue(all(" " <= sign <= "~" for sign in line), (path.name, number))
            for word in BARRED_WORDS:
                self.assertIsNone(re.search(rf"\b{word}\b", text), (path.name, word))

    def test_interface_is_defined_in_its_files(self):
        for module, listed in INTERFACE.items():
            tree = parsed(FOLDER / f"{module}.py")
            defined = [node.name for node in tree.body if isinstance(node, (ast.FunctionDef, ast.ClassDef))]
            for name in listed:
                self.assertIn(name, defined, module)

    def test_methods_of_the_interface_stand_in_their_classes(self):
        for (module, name), listed in METHODS.items():
            tree = parsed(FOLDER / f"{module}.py")
            body = [node.body for node in tree.body if isinstance(node, ast.ClassDef) and node.name == name][0]
            defined = [node.name for node in body if isinstance(node, ast.FunctionDef)]
            for method in listed:
                self.assertIn(method, defined, name)

    def test_functions_have_at_most_forty_lines(self):
        for path, tree in self.each():
            for node in ast.walk(tree):
                if isinstance(node, ast.FunctionDef):
                    self.assertLessEqual(node.end_lineno - node.lineno + 1, 40, node.name)

    def test_modules_hold_plain_things_bound_once(self):
        for path, tree in self.each():
            for node in tree.body:
                docstring = isinstance(node, ast.Expr) and node is tree.body[0]
                self.assertTrue(docstring or isinstance(node, MODULE_LEVEL), (path.name, node.lineno))
            names = names_defined(tree)
            self.assertEqual(len(names), len(set(names)), names)

    def test_imports_name_the_file_that_defines(self):
        for path, tree in self.each():
            for node in ast.walk(tree):
                if not isinstance(node, ast.ImportFrom):
                    continue
                self.assertEqual(node.level, 0)
                package, _, module = node.module.partition(".")
                if package == "surehouse":
                    defined = [one.name for one in parsed(FOLDER / f"{module}.py").body
                               if isinstance(one, (ast.FunctionDef, ast.ClassDef))]
                    defined += [target.id for one in parsed(FOLDER / f"{module}.py").body
                                if isinstance(one, ast.Assign) for target in one.targets]
                else:
                    defined = LIBRARY[node.module]
                for alias in node.names:
                    self.assertIn(alias.name, defined)

    def test_statements_and_values(self):
        for path, tree in self.each():
            for node in ast.walk(tree):
                self.assertNotIsInstance(node, BARRED_NODES, (path.name, getattr(node, "lineno", "/")))
                if isinstance(node, ast.Constant):
                    self.assertNotIsInstance(node.value, (float, complex))
                    if isinstance(node.value, str):
                        self.assertNotIn("%", node.value)

    def test_builtins(self):
        for path, tree in self.each():
            for name in names_bound(tree):
                self.assertFalse(hasattr(builtins, name), (path.name, name))
            for node in ast.walk(tree):
                if isinstance(node, ast.Name) and hasattr(builtins, node.id):
                    self.assertIn(node.id, BUILTINS, (path.name, node.lineno))


if __name__ == "__main__":
    unittest.main()

"""The files of the package keep to the parts of the language rules that are quick to check."""

import ast
import builtins
import pathlib
import re
import unittest

FOLDER = pathlib.Path(__file__).resolve().parent.parent / "surehouse"
FILES = sorted(path for path in FOLDER.rglob("*") if path.is_file() and "__pycache__" not in path.parts)

# What the interface lists under its modules.
INTERFACE = {
    "errors": ("ShopError", "BadCatalog", "BadOrder", "BadNumber", "BadItem", "BadName", "BadPrices", "BadBill",
               "BadAccounts", "BadEntries", "BadKey", "BadDeals", "BadEvent", "BadParcel", "TooLow", "BadLine"),
    "catalogs": ("is_catalog",),
    "bundles": ("made_of", "opened"),
    "promises": ("can_keep", "shows_can_keep"),
    "books": ("Book", "asked_all"),
    "waits": ("Waits",),
    "costs": ("cheapest", "shows_cheapest"),
    "shortage": ("best_kept", "shows_best_kept", "without", "closed", "if_closed"),
    "insured": ("insured", "is_sure", "mended", "SureBook"),
    "parcels": ("windows", "arrivals", "sheet", "left_after", "come"),
    "sums": ("shared", "stepped", "taxed", "net_of"),
    "bills": ("bill", "total_of", "refund", "refunds"),
    "ledgers": ("Ledger",),
    "worlds": ("World",),
    "audits": ("faults", "audit"),
    "schedules": ("reached", "replayed", "first_fault", "all_end"),
    "links": ("world_of", "done", "catalog_behind"),
    "shoptexts": ("write_catalog", "read_catalog", "write_order", "read_order"),
    "desk": ("Desk",),
}

# The methods and properties that the interface lists for a class stand in the class itself.
METHODS = {
    ("books", "Book"): ("ask", "cancel", "sends", "most", "earliest", "curve", "orders", "refusals"),
    ("waits", "Waits"): ("ask", "cancel", "promises", "row"),
    ("insured", "SureBook"): ("ask", "sends", "orders"),
    ("ledgers", "Ledger"): ("post", "turn_back", "balance", "as_of", "balances", "keys_told"),
    ("worlds", "World"): ("do", "can", "stage", "things", "coins", "finish", "log", "letters"),
    ("desk", "Desk"): ("read", "say"),
}

LIBRARY = {
    "heapq": ("heappush", "heappop", "heapify", "heapreplace", "heappushpop"),
    "math": ("gcd", "lcm", "isqrt", "comb", "perm", "factorial"),
    "itertools": ("product", "combinations", "permutations", "chain", "accumulate", "pairwise", "islice",
                  "zip_longest"),
    "collections": ("defaultdict",),
}
BUILTINS = (
    "len range enumerate zip min max sum abs sorted reversed int str bool bytes list tuple dict set isinstance ord "
    "repr any all divmod pow map iter next getattr hasattr setattr super property staticmethod classmethod object "
    "Exception ValueError TypeError KeyError IndexError LookupError ZeroDivisionError ArithmeticError OverflowError "
    "RuntimeError NotImplementedError AttributeError StopIteration NotImplemented"
).split()
BARRED_WORDS = (
    "typing typing_extensions enum Enum IntEnum StrEnum Flag IntFlag Generic Protocol ABC ABCMeta namedtuple "
    "NamedTuple TypedDict TYPE_CHECKING abstractmethod dataclass overload contextmanager"
).split()
BARRED_NODES = (ast.Global, ast.AsyncFunctionDef, ast.AsyncFor, ast.AsyncWith, ast.Await, ast.Import, ast.Div)
MODULE_LEVEL = (ast.ImportFrom, ast.FunctionDef, ast.ClassDef, ast.Assign)
# What a property may call of builtin values, and what is run as a property is.
QUIET_METHODS = ("items", "keys", "values", "get", "index", "count", "find", "join", "split", "strip")
RUN_ALONG = ("__eq__", "__str__", "__repr__", "__len__")
# In these a change or a call could stand that the search below does not see for what it is.
HIDING_NODES = (ast.FunctionDef, ast.Lambda, ast.GeneratorExp, ast.Yield, ast.YieldFrom, ast.Nonlocal, ast.Delete,
                ast.With, ast.NamedExpr)


def parsed(path):
    return ast.parse(path.read_text(encoding="utf-8"))


def names_defined(tree):
    """The names that a module's functions, classes, imports and assignments bind."""
    names = []
    for node in tree.body:
        if isinstance(node, (ast.FunctionDef, ast.ClassDef)):
            names.append(node.name)
        elif isinstance(node, ast.ImportFrom):
            names.extend(alias.asname or alias.name for alias in node.names)
        elif isinstance(node, ast.Assign):
            names.extend(target.id for target in node.targets)
    return names


def names_bound(tree):
    """All names that a file gives to functions, classes, parameters and variables."""
    names = [node.id for node in ast.walk(tree) if isinstance(node, ast.Name) and not isinstance(node.ctx, ast.Load)]
    names += [node.arg for node in ast.walk(tree) if isinstance(node, ast.arg)]
    names += [node.name for node in ast.walk(tree) if isinstance(node, (ast.FunctionDef, ast.ClassDef))
              and not node.name.startswith("__")]
    return names


def defined_by_name(trees):
    """By name: all functions, methods and properties of the package that are called so, whatever class they are of."""
    found = {}
    for tree in trees:
        for node in ast.walk(tree):
            if isinstance(node, ast.FunctionDef):
                found.setdefault(node.name, []).append(node)
    return found


def is_property(node):
    return any(isinstance(name, ast.Name) and name.id == "property" for name in node.decorator_list)


def names_called(node, functions):
    """The own names that a function calls, and what it calls or changes that a property may not."""
    called, wrong = [], []
    for part in ast.walk(node):
        if isinstance(part, HIDING_NODES) and part is not node:
            wrong.append((part.lineno, "hides"))
        elif isinstance(part, (ast.Attribute, ast.Subscript)) and not isinstance(part.ctx, ast.Load):
            wrong.append((part.lineno, "changes"))
        elif isinstance(part, ast.AugAssign) and not isinstance(part.value, ast.Constant):
            wrong.append((part.lineno, "changes"))
        elif isinstance(part, ast.Call) and isinstance(part.func, ast.Name):
            name = part.func.id
            if name in functions and name not in names_bound(node):
                called.append(name)
            elif name not in BUILTINS or name in ("setattr", "next", "super"):
                wrong.append((part.lineno, name))
        elif isinstance(part, ast.Call):
            name = part.func.attr if isinstance(part.func, ast.Attribute) else ""
            if name in functions and isinstance(part.func.value, ast.Name) and part.func.value.id == "self":
                called.append(name)
            elif name in functions or name not in QUIET_METHODS:
                wrong.append((part.lineno, name))
    return called, wrong


def faults_of_properties(trees):
    """By property: what it, or what it calls by name, calls or changes and may not."""
    functions = defined_by_name(trees)
    found = {}
    for rows in functions.values():
        for node in rows:
            if not is_property(node) and node.name not in RUN_ALONG:
                continue
            faults, seen, ahead = [], set(), [node]
            while ahead:
                one = ahead.pop()
                called, wrong = names_called(one, functions)
                faults += [(one.name, *row) for row in wrong]
                ahead += [row for name in called if name not in seen for row in functions[name]]
                seen.update(called)
            found.setdefault(node.name, []).extend(faults)
    return found


class LanguageTest(unittest.TestCase):

    def each(self):
        return [(path, parsed(path)) for path in FILES]

    def test_plain_files(self):
        self.assertTrue(FILES)
        for path in FILES:
            self.assertRegex(path.name, r"\A[a-z0-9_]+\.py\Z")
            text = path.read_text(encoding="utf-8")
            self.assertLessEqual(len(text.splitlines()), 399, path.name)
            for number, line in enumerate(text.split("\n"), 1):
                self.assertLessEqual(len(line), 120, (path.name, number))
                self.assertTrue(all(" " <= sign <= "~" for sign in line), (path.name, number))
            for word in BARRED_WORDS:
                self.assertIsNone(re.search(rf"\b{word}\b", text), (path.name, word))

    def test_interface_is_defined_in_its_files(self):
        for module, listed in INTERFACE.items():
            tree = parsed(FOLDER / f"{module}.py")
            defined = [node.name for node in tree.body if isinstance(node, (ast.FunctionDef, ast.ClassDef))]
            for name in listed:
                self.assertIn(name, defined, module)

    def test_methods_of_the_interface_stand_in_their_classes(self):
        for (module, name), listed in METHODS.items():
            tree = parsed(FOLDER / f"{module}.py")
            body = [node.body for node in tree.body if isinstance(node, ast.ClassDef) and node.name == name][0]
            defined = [node.name for node in body if isinstance(node, ast.FunctionDef)]
            for method in listed:
                self.assertIn(method, defined, name)

    def test_functions_have_at_most_forty_lines(self):
        for path, tree in self.each():
            for node in ast.walk(tree):
                if isinstance(node, ast.FunctionDef):
                    self.assertLessEqual(node.end_lineno - node.lineno + 1, 40, node.name)

    def test_modules_hold_plain_things_bound_once(self):
        for path, tree in self.each():
            for node in tree.body:
                docstring = isinstance(node, ast.Expr) and node is tree.body[0]
                self.assertTrue(docstring or isinstance(node, MODULE_LEVEL), (path.name, node.lineno))
            names = names_defined(tree)
            self.assertEqual(len(names), len(set(names)), names)

    def test_imports_name_the_file_that_defines(self):
        for path, tree in self.each():
            for node in ast.walk(tree):
                if not isinstance(node, ast.ImportFrom):
                    continue
                self.assertEqual(node.level, 0)
                package, _, module = node.module.partition(".")
                if package == "surehouse":
                    defined = [one.name for one in parsed(FOLDER / f"{module}.py").body
                               if isinstance(one, (ast.FunctionDef, ast.ClassDef))]
                    defined += [target.id for one in parsed(FOLDER / f"{module}.py").body
                                if isinstance(one, ast.Assign) for target in one.targets]
                else:
                    defined = LIBRARY[node.module]
                for alias in node.names:
                    self.assertIn(alias.name, defined)

    def test_statements_and_values(self):
        for path, tree in self.each():
            for node in ast.walk(tree):
                self.assertNotIsInstance(node, BARRED_NODES, (path.name, getattr(node, "lineno", "/")))
                if isinstance(node, ast.Constant):
                    self.assertNotIsInstance(node.value, (float, complex))
                    if isinstance(node.value, str):
                        self.assertNotIn("%", node.value)

    def test_properties_change_nothing(self):
        found = faults_of_properties([tree for _, tree in self.each()])
        listed = {"balances", "keys_told", "letters", "log", "orders", "promises", "refusals", "row"}
        self.assertEqual(set(found), listed)
        self.assertEqual(found, {name: [] for name in listed})

    def test_properties_have_names_of_their_own(self):
        for name, rows in defined_by_name([tree for _, tree in self.each()]).items():
            self.assertIn(len([row for row in rows if is_property(row)]), (0, len(rows)), name)

    def test_methods_are_told_apart_by_name_alone(self):
        box = "class Box:\n    @property\n    def many(self):\n        return self._told()\n\n"
        box += "    def _told(self):\n        return len(self.rows)\n"
        self.assertEqual(faults_of_properties([ast.parse(box)]), {"many": []})
        desk = "class Desk:\n    def _told(self):\n        return "
        for rest in ("self.book.sends()", "self.step()", "self.rows.append(1)", "self.rows.pop()", "self.steps[0]()"):
            self.assertTrue(faults_of_properties([ast.parse(box), ast.parse(desk + rest + "\n")])["many"], rest)
        for rest in ("self.n = 1", "self.rows[0] = 1", "self.n += 1", "del self.rows[0]", "self._other()"):
            text = "class Desk:\n    def _told(self):\n        " + rest + "\n\n"
            text += "    def _other(self):\n        self.n = 1\n"
            self.assertTrue(faults_of_properties([ast.parse(box), ast.parse(text)])["many"], rest)
        passed = "class Desk:\n    def _told(self, step):\n        return step()\n"
        self.assertTrue(faults_of_properties([ast.parse(box), ast.parse(passed)])["many"])

    def test_builtins(self):
        for path, tree in self.each():
            for name in names_bound(tree):
                self.assertFalse(hasattr(builtins, name), (path.name, name))
            for node in ast.walk(tree):
                if isinstance(node, ast.Name) and hasattr(builtins, node.id):
                    self.assertIn(node.id, BUILTINS, (path.name, node.lineno))


if __name__ == "__main__":
    unittest.main()

"""The form of the package: rules of LANGUAGE.md that a program can look at."""

import ast
import builtins
import unittest
from pathlib import Path

FOLDER = Path(__file__).resolve().parent.parent / "evensieve"
LIBRARY = {"math": {"gcd", "lcm", "isqrt", "comb", "perm", "factorial"},
           "heapq": {"heappush", "heappop", "heapify", "heapreplace", "heappushpop"},
           "itertools": {"product", "combinations", "permutations", "chain", "accumulate", "pairwise", "islice",
                         "zip_longest"},
           "collections": {"defaultdict", "deque"}}
BUILTINS = {"len", "range", "enumerate", "zip", "min", "max", "sum", "abs", "sorted", "reversed", "int", "str", "bool",
            "list", "tuple", "dict", "set", "isinstance", "ord", "repr", "any", "all", "divmod", "ValueError",
            "TypeError", "KeyError", "IndexError", "LookupError", "ZeroDivisionError", "map", "iter", "next", "property"}
METHODS = {"append", "clear", "copy", "count", "endswith", "extend", "find", "get", "index", "insert", "isalnum",
           "isalpha", "isdigit", "islower", "isspace", "isupper", "items", "join", "keys", "ljust", "lower", "lstrip",
           "partition", "pop", "remove", "replace", "reverse", "rfind", "rjust", "rpartition", "rsplit", "rstrip",
           "setdefault", "split", "splitlines", "startswith", "strip", "update", "upper", "values", "zfill",
           "bit_length", "add", "discard", "removeprefix", "removesuffix"}
BARRED = (ast.Global, ast.AsyncFunctionDef, ast.AsyncFor, ast.AsyncWith, ast.Await, ast.Div, ast.MatMult)
INTERFACE = {
    "errors": "SieveError BadColumns BadTable BadPlan BadText BadLot BadDraws NeverKept TooLarge",
    "tables": "Columns Table",
    "plans": "checked_plan",
    "patterns": "matches",
    "asks": "asks_in answers_of types_of",
    "draws": "tests_in thresholds lengths holds_at",
    "measures": "measures",
    "sieving": "needed sieve drawn",
    "fractions": "lowest plus minus times over is_less total product_of is_fraction",
}


def files():
    return sorted(FOLDER.glob("*.py"))


def trees():
    return [(path, ast.parse(path.read_text())) for path in files()]


def bound_names(tree):
    """All names that a file gives to something."""
    for node in ast.walk(tree):
        if isinstance(node, (ast.FunctionDef, ast.ClassDef)):
            yield node.name
        elif isinstance(node, ast.arg):
            yield node.arg
        elif isinstance(node, ast.Name) and isinstance(node.ctx, ast.Store):
            yield node.id


class TestForm(unittest.TestCase):

    def test_the_folder_holds_files_of_python_alone(self):
        self.assertIn(FOLDER / "__init__.py", files())
        for path in FOLDER.iterdir():
            self.assertTrue(path.suffix == ".py" or path.name == "__pycache__", path)

    def test_signs_and_sizes(self):
        for path in files():
            text = path.read_text()
            self.assertEqual({sign for sign in text if not " " <= sign <= "~"} - {"\n"}, set(), path)
            lines = text.splitlines()
            self.assertLessEqual(len(lines), 399, path)
            self.assertLessEqual(max(len(line) for line in lines), 120, path)

    def test_functions_are_small(self):
        for path, tree in trees():
            for node in ast.walk(tree):
                if isinstance(node, ast.FunctionDef):
                    self.assertLessEqual(node.end_lineno - node.lineno + 1, 40, (path, node.name))

    def test_what_stands_at_module_level(self):
        for path, tree in trees():
            self.assertIsNotNone(ast.get_docstring(tree), path)
            for node in tree.body[1:]:
                self.assertIsInstance(node, (ast.ImportFrom, ast.FunctionDef, ast.ClassDef, ast.Assign), path)

    def test_names_are_bound_once_at_module_level(self):
        for path, tree in trees():
            names = []
            for node in tree.body[1:]:
                if isinstance(node, ast.ImportFrom):
                    names += [alias.name for alias in node.names]
                elif isinstance(node, ast.Assign):
                    names += [target.id for target in node.targets]
                else:
                    names.append(node.name)
            self.assertEqual(len(names), len(set(names)), path)

    def test_imports_name_the_file_that_defines(self):
        defined = {"evensieve." + path.stem: set(bound_names(tree)) for path, tree in trees()}
        for path, tree in trees():
            for node in ast.walk(tree):
                self.assertNotIsInstance(node, ast.Import, path)
                if isinstance(node, ast.ImportFrom):
                    known = LIBRARY.get(node.module) or defined[node.module]
                    for alias in node.names:
                        self.assertIn(alias.name, known, path)
                        self.assertIsNone(alias.asname, path)

    def test_imports_run_in_no_circle(self):
        needs = {}
        for path, tree in trees():
            modules = [node.module for node in ast.walk(tree) if isinstance(node, ast.ImportFrom)]
            needs["evensieve." + path.stem] = {module for module in modules if module not in LIBRARY}
        while needs:
            free = [name for name in needs if not needs[name] & set(needs)]
            self.assertNotEqual(free, [], needs)
            for name in free:
                needs.pop(name)

    def test_barred_statements_and_signs(self):
        for path, tree in trees():
            for node in ast.walk(tree):
                self.assertNotIsInstance(node, BARRED, path)
                if isinstance(node, ast.Constant):
                    self.assertNotIsInstance(node.value, (float, complex, bytes), path)
                if isinstance(node, (ast.FunctionDef, ast.ClassDef)):
                    told = [decorator.id for decorator in node.decorator_list]
                    self.assertIn(told, ([], ["property"]), (path, node.name))

    def test_builtins(self):
        everything = set(dir(builtins))
        for path, tree in trees():
            for node in ast.walk(tree):
                if isinstance(node, ast.Name) and isinstance(node.ctx, ast.Load) and node.id in everything:
                    self.assertIn(node.id, BUILTINS, path)

    def test_names_are_plain(self):
        barred = set(dir(builtins)) | {"mro", "elements", "law", "register", "version_info", "sys", "os"}
        for path, tree in trees():
            for name in bound_names(tree):
                self.assertNotIn(name, barred, path)
                self.assertTrue(name.isascii() and (name == "_" or not name.startswith("__") or name.endswith("__")), path)

    def test_methods(self):
        own = {name for _, tree in trees() for name in bound_names(tree)}
        for path, tree in trees():
            for node in ast.walk(tree):
                if isinstance(node, ast.Call) and isinstance(node.func, ast.Attribute):
                    self.assertIn(node.func.attr, METHODS | own, path)

    def test_generator_expressions_are_lists_where_classes_compare(self):
        for path, tree in trees():
            for node in ast.walk(tree):
                self.assertNotIsInstance(node, ast.GeneratorExp, path)

    def test_strings(self):
        for path, tree in trees():
            for node in ast.walk(tree):
                if isinstance(node, ast.Constant) and isinstance(node.value, str):
                    self.assertNotIn("%", node.value, path)

    def test_the_interface_is_defined_where_it_is_listed(self):
        defined = {path.stem: {node.name for node in tree.body if isinstance(node, (ast.FunctionDef, ast.ClassDef))}
                   for path, tree in trees()}
        for module, names in INTERFACE.items():
            self.assertEqual(set(names.split()) - defined[module], set(), module)


if __name__ == "__main__":
    unittest.main()

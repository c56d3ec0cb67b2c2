"""The form of the package: rules of LANGUAGE.md that a program can look at."""

import ast
import builtins
import tokenize
import unittest
from pathlib import Path

FOLDER = Path(__file__).resolve().parent.parent / "evensieve"
LIBRARY = {"math": {"gcd", "lcm", "isqrt", "comb", "perm", "factorial"},
           "heapq": {"heappush", "heappop", "heapify", "heapreplace", "heappushpop"},
           "itertools": {"product", "combinations", "permutations", "chain", "accumulate", "pairwise", "islice",
                         "zip_longest"},
           "collections": {"defaultdict", "deque"}}
BUILTINS = {"len", "range", "enumerate", "zip", "min", "max", "sum", "abs", "sorted", "reversed", "int", "str", "bool",
            "list", "tuple", "dict", "set", "isinstance", "ord", "repr", "any", "all", "divmod", "ValueError",
            "TypeError", "KeyError", "IndexError", "LookupError", "ZeroDivisionError", "map", "iter", "next", "property"}
METHODS = {"append", "clear", "copy", "count", "endswith", "extend", "find", "get", "index", "insert", "isalnum",
           "isalpha", "isdigit", "islower", "isspace", "isupper", "items", "join", "keys", "ljust", "lower", "lstrip",
           "partition", "pop", "remove", "replace", "reverse", "rfind", "rjust", "rpartition", "rsplit", "rstrip",
           "setdefault", "split", "splitlines", "startswith", "strip", "update", "upper", "values", "zfill",
           "bit_length", "add", "discard", "removeprefix", "removesuffix"}
BARRED = (ast.Global, ast.AsyncFunctionDef, ast.AsyncFor, ast.AsyncWith, ast.Await, ast.Div, ast.MatMult)
INTERFACE = {
    "errors": "SieveError BadColumns(part) BadTable(number) BadPlan(part) BadText(line,column) BadLot(lot) BadDraws(key) "
              "NeverKept(answers) TooLarge(number)",
    "tables": "Columns(hashed,asked,summed) Columns.kinds() Table(columns,rows) Table.entity(number,kind) "
              "Table.entities(kind) Table.__len__() Columns.__eq__(other) Table.__eq__(other)",
    "plans": "checked_plan(columns,plan)",
    "patterns": "matches(pattern,text)",
    "asks": "asks_in(plans) answers_of(columns,asks,values) types_of(columns,plans)",
    "draws": "tests_in(plans) thresholds(plans,test) lengths(plans,test) holds_at(plans,plan,answers,parts)",
    "measures": "measures(columns,plans)",
    "sieving": "needed(table,plans) sieve(table,plan,draws) drawn(table,plans,seed)",
    "laws": "law_of(table,plan) chance_of(table,plan,lot) chance_all(table,plan,lot) chance_none(table,plan,lot)",
    "texts": "read_plan(columns,text) write_plan(plan)",
    "sums": "checked_where(columns,where) true_sum(table,where,name) Weights(weights) Unseen(answers,row) "
            "Weights.shows(columns,plan,where) Unseen.shows(columns,plan,where) judge_sum(columns,plan,where) "
            "estimate(table,plan,where,weights,kept,name) expected_keys(table,plan,name)",
    "keysums": "KeysTold(factor,states) KeysAstray(one,other) KeysTold.shows(columns,plan,name) "
               "KeysAstray.shows(columns,plan,name) judge_keys(columns,plan,name)",
    "variances": "coefficients(columns,plan,where) variance(table,plan,where,name) group_parts(columns,plan,where) "
                 "variance_by_groups(table,plan,where,name) ErrAlike(singles,pairs) ErrUnlike(table,name) "
                 "ErrAlike.shows(columns,one,other,where) ErrUnlike.shows(columns,one,other,where) "
                 "judge_errors(columns,one,other,where)",
    "onhand": "HandWeights(singles,pairs) NeverBoth(one,other,shared) HandWeights.shows(columns,plan,where) "
              "NeverBoth.shows(columns,plan,where) judge_hand(columns,plan,where) likeliest(table,plans,lot) "
              "hand_variance(table,plan,where,weights,kept,name)",
    "fractions": "lowest(above,below) plus(one,other) minus(one,other) times(one,other) over(one,other) "
                 "is_less(one,other) total(rows) product_of(rows) is_fraction(value)",
    "kernels": "Kernel(weights,functions) Kernel.kinds() Kernel.__eq__(other) kernel_of(columns,plans,at) "
               "chance_one(kernel,number) chance_two(kernel,number,other,shared)",
    "reduced": "reduced(kernel) matchings(one,other,is_weighed,most)",
    "same": "Same(maps) Unlike(which,chosen,chances) Same.shows(columns,one,other) Unlike.shows(columns,one,other) "
            "Same.shows_kernels(pair) Unlike.shows_kernels(pair) judge_pair(pair) judge_same(columns,one,other) "
            "classes_of(columns,plans)",
    "apart": "all_kept(columns,plans,at,table) Apart(table,chances) Apart.shows(columns,one,other) Apart.__eq__(other) "
             "table_apart(columns,one,other,most)",
    "joins": "judge_join(one,other,key,first,second) shows_join(told,one,other,key,first,second) "
             "join_chance(one,other,key,pair)",
    "nested": "Within Outside(row,draws) Within.shows(columns,one,other) Outside.shows(columns,one,other) "
              "judge_within(columns,one,other)",
    "offers": "Cheapest(number,paper,against) Cheapest.shows(columns,wanted,offers) cheapest_same(columns,wanted,offers) "
              "reading(columns,plan,table)",
    "natural": "judge_joined(columns,one,other) shows_joined(told,columns,one,other)",
    "pushes": "pushes(columns,plans) Pushed(number,costs) Pushed.shows(columns,plans,tables,prices) Pushed.__eq__(other) "
              "cheapest_push(columns,plans,tables,prices)",
    "joinsums": "JoinWeights(weights) JoinUnseen(rows) JoinWeights.shows(one,other,key,pair,wheres) "
                "JoinUnseen.shows(one,other,key,pair,wheres) judge_join_sum(one,other,key,pair,wheres) "
                "true_join_sum(tables,key,wheres,names) join_variance(tables,key,pair,wheres,names) "
                "join_estimate(tables,key,pair,wheres,weights,lots,names)",
    "sieveerrors": "BadMost(most) BadKey(key) BadOffers(number) BadLists(number) BadPrices(number)",
    "arrays": "Array(sizes,entries) Array.__eq__(other) array_of(kernel,chosen) array_chance(kernel,array)",
}
EVIDENCE = {"sums": "Weights Unseen", "keysums": "KeysTold KeysAstray", "variances": "ErrAlike ErrUnlike",
            "onhand": "HandWeights NeverBoth", "same": "Same Unlike", "nested": "Within Outside", "offers": "Cheapest",
            "joinsums": "JoinWeights JoinUnseen"}
# These words occur in comments and docstrings alone.
BARRED_WORDS = {"type", "typing", "enum", "Enum", "Flag", "Generic", "Protocol", "ABC", "namedtuple", "dataclass",
                "overload", "contextmanager"}


def files():
    return sorted(FOLDER.glob("*.py"))


def trees():
    return [(path, ast.parse(path.read_text())) for path in files()]


def bound_names(tree):
    """All names that a file gives to something."""
    for node in ast.walk(tree):
        if isinstance(node, (ast.FunctionDef, ast.ClassDef)):
            yield node.name
        elif isinstance(node, ast.arg):
            yield node.arg
        elif isinstance(node, ast.Name) and isinstance(node.ctx, ast.Store):
            yield node.id


def functions_of(node):
    """The functions of a file or the methods of a class."""
    inner = [part for part in node.body if isinstance(part, ast.ClassDef)]
    return [part for part in node.body if isinstance(part, ast.FunctionDef)] + [
        function for part in inner for function in functions_of(part)]


def shape(function):
    """The names of what is passed to a function or a method."""
    return "(" + ",".join([arg.arg for arg in function.args.args if arg.arg != "self"]) + ")"


def defined_in(tree):
    """The names of classes, and functions, classes and methods with what is passed to them."""
    told = set()
    for node in tree.body:
        if isinstance(node, ast.FunctionDef):
            told.add(node.name + shape(node))
        if isinstance(node, ast.ClassDef):
            told.add(node.name)
            for function in functions_of(node):
                told.add(node.name + ("" if function.name == "__init__" else "." + function.name) + shape(function))
    return told


class TestForm(unittest.TestCase):

    def test_the_folder_holds_files_of_python_alone(self):
        self.assertIn(FOLDER / "__init__.py", files())
        for path in FOLDER.iterdir():
            self.assertTrue(path.suffix == ".py" or path.name == "__pycache__", path)

    def test_signs_and_sizes(self):
        for path in files():
            text = path.read_text()
            self.assertEqual({sign for sign in text if not " " <= sign <= "~"} - {"\n"}, set(), path)
            lines = text.splitlines()
            self.assertLessEqual(len(lines), 399, path)
            self.assertLessEqual(max(len(line) for line in lines), 120, path)

    def test_functions_are_small(self):
        for path, tree in trees():
            for node in ast.walk(tree):
                if isinstance(node, ast.FunctionDef):
                    self.assertLessEqual(node.end_lineno - node.lineno + 1, 40, (path, node.name))

    def test_what_stands_at_module_level(self):
        for path, tree in trees():
            self.assertIsNotNone(ast.get_docstring(tree), path)
            for node in tree.body[1:]:
                self.assertIsInstance(node, (ast.ImportFrom, ast.FunctionDef, ast.ClassDef, ast.Assign), path)

    def test_names_are_bound_once_at_module_level(self):
        for path, tree in trees():
            names = []
            for node in tree.body[1:]:
                if isinstance(node, ast.ImportFrom):
                    names += [alias.name for alias in node.names]
                elif isinstance(node, ast.Assign):
                    names += [target.id for target in node.targets]
                else:
                    names.append(node.name)
            self.assertEqual(len(names), len(set(names)), path)

    def test_imports_name_the_file_that_defines(self):
        defined = {"evensieve." + path.stem: set(bound_names(tree)) for path, tree in trees()}
        for path, tree in trees():
            for node in ast.walk(tree):
                self.assertNotIsInstance(node, ast.Import, path)
                if isinstance(node, ast.ImportFrom):
                    known = LIBRARY.get(node.module) or defined[node.module]
                    for alias in node.names:
                        self.assertIn(alias.name, known, path)
                        self.assertIsNone(alias.asname, path)

    def test_imports_run_in_no_circle(self):
        needs = {}
        for path, tree in trees():
            modules = [node.module for node in ast.walk(tree) if isinstance(node, ast.ImportFrom)]
            needs["evensieve." + path.stem] = {module for module in modules if module not in LIBRARY}
        while needs:
            free = [name for name in needs if not needs[name] & set(needs)]
            self.assertNotEqual(free, [], needs)
            for name in free:
                needs.pop(name)

    def test_barred_statements_and_signs(self):
        for path, tree in trees():
            for node in ast.walk(tree):
                self.assertNotIsInstance(node, BARRED, path)
                if isinstance(node, ast.Constant):
                    self.assertNotIsInstance(node.value, (float, complex, bytes), path)
                if isinstance(node, (ast.FunctionDef, ast.ClassDef)):
                    told = [decorator.id for decorator in node.decorator_list]
                    self.assertIn(told, ([], ["property"]), (path, node.name))

    def test_builtins(self):
        everything = set(dir(builtins))
        for path, tree in trees():
            for node in ast.walk(tree):
                if isinstance(node, ast.Name) and isinstance(node.ctx, ast.Load) and node.id in everything:
                    self.assertIn(node.id, BUILTINS, path)

    def test_names_are_plain(self):
        barred = set(dir(builtins)) | {"mro", "elements", "law", "register", "version_info", "sys", "os"}
        for path, tree in trees():
            for name in bound_names(tree):
                self.assertNotIn(name, barred, path)
                self.assertTrue(name.isascii() and (name == "_" or not name.startswith("__") or name.endswith("__")), path)

    def test_methods(self):
        own = {name for _, tree in trees() for name in bound_names(tree)}
        for path, tree in trees():
            for node in ast.walk(tree):
                if isinstance(node, ast.Call) and isinstance(node.func, ast.Attribute):
                    self.assertIn(node.func.attr, METHODS | own, path)

    def test_generator_expressions_are_lists_where_classes_compare(self):
        for path, tree in trees():
            for node in ast.walk(tree):
                self.assertNotIsInstance(node, ast.GeneratorExp, path)

    def test_strings(self):
        for path, tree in trees():
            for node in ast.walk(tree):
                if isinstance(node, ast.Constant) and isinstance(node.value, str):
                    self.assertNotIn("%", node.value, path)

    def test_words_of_the_library(self):
        for path in files():
            with open(path, "rb") as file:
                words = [token.string for token in tokenize.tokenize(file.readline) if token.type == tokenize.NAME]
            self.assertEqual(BARRED_WORDS & set(words), set(), path)

    def test_local_names_are_not_those_of_imports_and_classes(self):
        for path, tree in trees():
            above = {alias.name for node in tree.body if isinstance(node, ast.ImportFrom) for alias in node.names}
            above |= {node.name for node in tree.body if isinstance(node, ast.ClassDef)}
            for function in functions_of(tree):
                for node in ast.walk(function):
                    if isinstance(node, ast.arg):
                        self.assertNotIn(node.arg, above, (path, function.name))
                    elif isinstance(node, ast.Name) and isinstance(node.ctx, ast.Store):
                        self.assertNotIn(node.id, above, (path, function.name))

    def test_functions_do_not_lie_in_functions(self):
        for path, tree in trees():
            for function in functions_of(tree):
                self.assertEqual([node for node in ast.walk(function) if isinstance(node, ast.FunctionDef)], [function], path)

    def test_sets_stand_where_they_may(self):
        for path, tree in trees():
            allowed = []
            for node in ast.walk(tree):
                if isinstance(node, ast.Call) and isinstance(node.func, ast.Name) and node.func.id in ("sorted", "len"):
                    allowed += node.args
            for node in ast.walk(tree):
                is_set = isinstance(node, (ast.Set, ast.SetComp))
                if is_set or isinstance(node, ast.Call) and isinstance(node.func, ast.Name) and node.func.id == "set":
                    self.assertIn(node, allowed, (path, node.lineno))

    def test_tables_at_module_level_are_only_read(self):
        for path, tree in trees():
            tables = {node.targets[0].id for node in tree.body
                      if isinstance(node, ast.Assign) and isinstance(node.value, (ast.Dict, ast.List))}
            read = [node.value for node in ast.walk(tree) if isinstance(node, (ast.Subscript, ast.Attribute))]
            read += [node.comparators[0] for node in ast.walk(tree) if isinstance(node, ast.Compare)]
            for node in ast.walk(tree):
                if isinstance(node, ast.Name) and isinstance(node.ctx, ast.Load) and node.id in tables:
                    self.assertIn(node, read, (path, node.id))

    def test_attributes_and_methods_have_different_names(self):
        methods, attributes = set(), set()
        for path, tree in trees():
            for node in ast.walk(tree):
                if isinstance(node, ast.ClassDef):
                    methods |= {function.name for function in functions_of(node)}
                if isinstance(node, ast.Attribute) and isinstance(node.ctx, ast.Store):
                    attributes.add(node.attr)
        self.assertEqual(methods & attributes, set())

    def test_each_equality_asks_for_the_class_first(self):
        for path, tree in trees():
            for node in ast.walk(tree):
                if isinstance(node, ast.ClassDef):
                    for function in functions_of(node):
                        if function.name == "__eq__":
                            told = ast.unparse(function.body[0])
                            first = (f"return isinstance(other, {node.name}) and ", f"if not isinstance(other, {node.name}):\n")
                            self.assertTrue(told.startswith(first), told)


class TestInterface(unittest.TestCase):

    def test_it_is_defined_where_it_is_listed(self):
        for module, listed in INTERFACE.items():
            tree = ast.parse((FOLDER / (module + ".py")).read_text())
            self.assertEqual(set(listed.split()) - defined_in(tree), set(), module)

    def test_evidence_has_its_methods_in_the_class_itself(self):
        for module, listed in EVIDENCE.items():
            told = defined_in(ast.parse((FOLDER / (module + ".py")).read_text()))
            for name in listed.split():
                self.assertLessEqual({name + ".__bool__()", name + ".__eq__(other)"}, told)

    def test_attributes_are_set_when_objects_are_created(self):
        names = " ".join(EVIDENCE.values()).split() + ["Kernel", "Array", "Apart", "Pushed"]
        names.remove("Within")
        classes = [node for _, tree in trees() for node in tree.body if isinstance(node, ast.ClassDef) and node.name in names]
        self.assertEqual(len(classes), len(names))
        for node in classes:
            created = [function for function in functions_of(node) if function.name == "__init__"][0]
            told = {inner.attr for inner in ast.walk(created)
                    if isinstance(inner, ast.Attribute) and isinstance(inner.ctx, ast.Store)}
            self.assertEqual(told, {arg.arg for arg in created.args.args} - {"self"}, node.name)


if __name__ == "__main__":
    unittest.main()

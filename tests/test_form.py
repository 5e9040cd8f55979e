"""The form of the code: those rules of LANGUAGE.md that show in single lines, files and names."""

import ast
import builtins
import re
import unittest
from pathlib import Path

PACKAGE = Path(__file__).resolve().parent.parent / "recipelayers"
FILES = sorted(PACKAGE.glob("*.py"))
LIBRARY = {
    "heapq": ["heappush", "heappop", "heapify", "heapreplace", "heappushpop"],
    "math": ["gcd", "lcm", "isqrt", "comb", "perm", "factorial"],
    "itertools": ["product", "combinations", "permutations", "chain", "accumulate", "pairwise", "islice",
                  "zip_longest"],
    "collections": ["defaultdict", "deque"],
}
BUILTINS = """len range enumerate zip min max sum abs sorted reversed int str bool bytes list tuple dict set frozenset
isinstance ord repr any all divmod pow map iter next getattr hasattr setattr Exception ValueError TypeError KeyError
IndexError LookupError ZeroDivisionError ArithmeticError OverflowError RuntimeError NotImplementedError AttributeError
StopIteration NotImplemented classmethod staticmethod property super""".split()
METHODS = """append clear copy count endswith extend find get index insert isalnum isalpha isdigit islower isspace
isupper items join keys ljust lower lstrip partition pop remove replace reverse rfind rjust rpartition rsplit rstrip
setdefault split splitlines startswith strip update upper values zfill bit_length add discard""".split()
SPECIAL = """__init__ __eq__ __repr__ __str__ __len__ __enter__ __exit__ __call__ __iter__ __or__ __contains__""".split()
WORDS = r"\b(register|mro|elements|open|input|law|version_info|with_traceback|add_note|typing|enum|Enum|Flag|Generic|" \
        r"Protocol|ABC|namedtuple|overload|_wall)\b"
NOT_USED = (ast.AsyncFunctionDef, ast.AsyncFor, ast.Await, ast.Import, ast.Div, ast.MatMult)
OPERATORS = ["__or__", "__contains__", "__eq__", "__len__", "__repr__"]
KEYWORDS = {"min": ["key", "default"], "max": ["key", "default"], "sorted": ["key", "reverse"], "sum": ["start"],
            "enumerate": ["start"], "zip": ["strict"]}


def trees():
    return [(file, ast.parse(file.read_text())) for file in FILES]


def parts(kind):
    """All parts of the package of a kind, with their files."""
    return [(file, part) for file, tree in trees() for part in ast.walk(tree) if isinstance(part, kind)]


def code(file):
    """The text of a file without comments and docstrings."""
    return ast.unparse(without_docstrings(ast.parse(file.read_text())))


def without_docstrings(tree):
    for part in ast.walk(tree):
        body = getattr(part, "body", None)
        if isinstance(body, list) and body and isinstance(body[0], ast.Expr):
            if isinstance(body[0].value, ast.Constant) and isinstance(body[0].value.value, str):
                body[0] = ast.Pass()
    return tree


def targets(tree):
    """The names that a file gives to parameters, variables and loops."""
    names = [part.arg for part in ast.walk(tree) if isinstance(part, ast.arg)]
    return names + [part.id for part in ast.walk(tree) if isinstance(part, ast.Name) and isinstance(part.ctx, ast.Store)]


def called(call):
    """The name by which something is called."""
    return call.func.attr if isinstance(call.func, ast.Attribute) else getattr(call.func, "id", "")


class TestForm(unittest.TestCase):

    def test_files(self):
        names = [entry.name for entry in PACKAGE.iterdir() if entry.name != "__pycache__"]
        for name in names:
            self.assertRegex(name, r"^([a-z][a-z0-9_]*|__init__)\.py$")
        self.assertIn("__init__.py", names)

    def test_sizes_and_characters(self):
        for file in FILES:
            text = file.read_text()
            self.assertRegex(text, r"\A[ -~\n]*\n\Z")
            self.assertLessEqual(len(text.splitlines()), 399)
            self.assertLessEqual(max(len(line) for line in text.splitlines()), 120)
        for file, function in parts(ast.FunctionDef):
            self.assertLessEqual(function.end_lineno - function.lineno + 1, 40, (file, function.name))

    def test_imports(self):
        for file, tree in trees():
            for part in ast.walk(tree):
                if isinstance(part, ast.ImportFrom):
                    self.assertIn(part, tree.body)
                    self.assertEqual([part.level, [name.asname for name in part.names if name.asname]], [0, []])
                    for name in part.names:
                        self.assertIn(name.name, self.offered(part.module))

    def offered(self, module):
        """What may be imported from a module."""
        if module in LIBRARY:
            return LIBRARY[module]
        package, file = module.split(".")
        self.assertEqual(package, PACKAGE.name)
        body = ast.parse((PACKAGE / f"{file}.py").read_text()).body
        names = [part.name for part in body if isinstance(part, (ast.FunctionDef, ast.ClassDef))]
        return names + [target.id for part in body if isinstance(part, ast.Assign) for target in part.targets]

    def test_no_two_files_import_each_other(self):
        needs = {}
        for file, part in parts(ast.ImportFrom):
            needs.setdefault(file.stem, set()).add(part.module.split(".")[-1])
        for start in needs:
            seen, left = set(), list(needs[start])
            while left:
                file = left.pop()
                if file not in seen:
                    seen.add(file)
                    left += needs.get(file, ())
            self.assertNotIn(start, seen)

    def test_module_level(self):
        for file, tree in trees():
            self.assertIsNotNone(ast.get_docstring(tree), file)
            for part in without_docstrings(tree).body:
                self.assertIsInstance(part, (ast.Pass, ast.ImportFrom, ast.FunctionDef, ast.ClassDef, ast.Assign))
                if isinstance(part, ast.Assign):
                    self.assertIsInstance(part.value, (ast.Constant, ast.Tuple, ast.List, ast.Dict))

    def test_what_is_not_used(self):
        self.assertEqual([(file.name, part.lineno) for file, part in parts(NOT_USED)], [])
        for file in FILES:
            self.assertIsNone(re.search(WORDS, code(file)), file)
            self.assertNotIn("%", code(file).replace(" % ", ""), file)

    def test_values(self):
        for file, part in parts(ast.Constant):
            self.assertNotIsInstance(part.value, (float, complex, bytes), file)

    def test_comparisons_by_identity(self):
        for file, part in parts(ast.Compare):
            for sign, right in zip(part.ops, part.comparators):
                if isinstance(sign, (ast.Is, ast.IsNot)):
                    self.assertIn(ast.unparse(right), ["None", "True", "False"], file)

    def test_builtins(self):
        known = set(dir(builtins))
        for file, tree in trees():
            for part in ast.walk(tree):
                if isinstance(part, ast.Name) and part.id in known:
                    self.assertIn(part.id, BUILTINS, file)

    def test_names(self):
        for file, tree in trees():
            taken = [name.name for part in tree.body if isinstance(part, ast.ImportFrom) for name in part.names]
            taken += [part.name for part in tree.body if isinstance(part, ast.ClassDef)]
            for name in targets(tree):
                self.assertNotIn(name, taken, file)
                self.assertNotIn(name, dir(builtins), file)
                self.assertRegex(name, r"^(_?[A-Za-z][A-Za-z0-9_]*|_)$")

    def test_no_blank_name_is_read(self):
        for file, part in parts(ast.Name):
            self.assertFalse(part.id == "_" and isinstance(part.ctx, ast.Load), file)

    def test_methods(self):
        own = {part.name for _, part in parts(ast.FunctionDef)}
        for file, part in parts(ast.Call):
            if isinstance(part.func, ast.Attribute):
                self.assertIn(part.func.attr, own | set(METHODS), file)

    def test_keywords_of_builtins(self):
        for file, part in parts(ast.Call):
            if isinstance(part.func, ast.Name) and part.func.id in dir(builtins):
                for word in part.keywords:
                    self.assertIn(word.arg, KEYWORDS.get(part.func.id, []), file)

    def test_lists_where_a_class_compares(self):
        for file, part in parts(ast.Call):
            if isinstance(part.func, ast.Name) and part.func.id in ("any", "all", "min", "max", "sum", "sorted"):
                for argument in part.args:
                    self.assertNotIsInstance(argument, ast.GeneratorExp, file)

    def test_classes_and_functions(self):
        for file, part in parts(ast.ClassDef):
            self.assertEqual(part.decorator_list, [])
            self.assertIsNotNone(ast.get_docstring(part))
            for method in part.body:
                self.assertIsInstance(method, (ast.FunctionDef, ast.Expr), file)
        for file, part in parts(ast.FunctionDef):
            self.assertIn([ast.unparse(name) for name in part.decorator_list], [[], ["classmethod"]], file)
            self.assertIsNone(part.returns)
            if part.name.startswith("__"):
                self.assertIn(part.name, SPECIAL)

    def test_errors_are_raised_and_caught_by_name(self):
        own = {"ValueError"}
        for _ in range(3):
            own |= {part.name for _, part in parts(ast.ClassDef) for base in part.bases if ast.unparse(base) in own}
        for file, part in parts(ast.Raise):
            self.assertIsInstance(part.exc, ast.Call, file)
            self.assertIn(ast.unparse(part.exc.func), own - {"ValueError"}, file)
        for file, part in parts(ast.ExceptHandler):
            self.assertIn(ast.unparse(part.type), own - {"ValueError"}, file)

    def test_generators(self):
        functions = [part for _, part in parts(ast.FunctionDef)]
        names = [function.name for function in functions
                 if [part for part in ast.walk(function) if isinstance(part, (ast.Yield, ast.YieldFrom))]]
        self.assertEqual(sorted(names), ["moments", "walk"])
        for name in names:
            self.assertEqual(len([function for function in functions if function.name == name]), 1)
        for file, tree in trees():
            iterated = [part.iter for part in ast.walk(tree) if isinstance(part, (ast.For, ast.comprehension))]
            iterated += [part.args[0] for part in ast.walk(tree) if isinstance(part, ast.Call) and part.args
                         and ast.unparse(part.func) == "list"]
            for part in ast.walk(tree):
                if isinstance(part, ast.Call) and called(part) in names:
                    self.assertIn(part, iterated, file)

    def test_no_method_is_an_attribute(self):
        methods = {method.name for _, part in parts(ast.ClassDef) for method in part.body
                   if isinstance(method, ast.FunctionDef)}
        stored = {part.attr for file, part in parts(ast.Attribute) if isinstance(part.ctx, ast.Store)}
        self.assertEqual(methods & stored, set())

    def test_sets_stand_where_they_may(self):
        for file, tree in trees():
            allowed = [argument for call in ast.walk(tree) if isinstance(call, ast.Call)
                       and isinstance(call.func, ast.Name) and call.func.id in ("sorted", "len")
                       for argument in call.args]
            for part in ast.walk(tree):
                is_call = isinstance(part, ast.Call) and ast.unparse(part.func) == "set"
                if is_call or isinstance(part, (ast.Set, ast.SetComp)):
                    self.assertIn(part, allowed, file)

    def test_what_the_library_gives_is_iterated_at_once(self):
        for file, tree in trees():
            iterated = [part.iter for part in ast.walk(tree) if isinstance(part, (ast.For, ast.comprehension))]
            iterated += [argument for part in ast.walk(tree) if isinstance(part, ast.Call)
                         and ast.unparse(part.func) in ("list", "tuple", "sorted", "enumerate", "sum", "any", "all")
                         for argument in part.args[:1]]
            for part in ast.walk(tree):
                if isinstance(part, ast.Call) and called(part) in ("permutations", "combinations", "product", "zip", "enumerate",
                                                                   "reversed", "items", "keys", "values"):
                    self.assertIn(part, iterated, (file, part.lineno))

    def test_tables_are_only_looked_up(self):
        tables = {part.targets[0].id for _, tree in trees() for part in tree.body
                  if isinstance(part, ast.Assign) and isinstance(part.value, (ast.Dict, ast.List))}
        self.assertTrue(tables)
        for file, tree in trees():
            looked = [part.value for part in ast.walk(tree) if isinstance(part, ast.Subscript)]
            looked += [part.value for part in ast.walk(tree) if isinstance(part, ast.Attribute) and part.attr == "get"]
            looked += [side for part in ast.walk(tree) if isinstance(part, ast.Compare) for side in part.comparators]
            for part in ast.walk(tree):
                if isinstance(part, ast.Name) and part.id in tables and isinstance(part.ctx, ast.Load):
                    self.assertIn(part, looked, (file, part.lineno))

    def test_what_stands_in_exit(self):
        found = [function for _, function in parts(ast.FunctionDef) if function.name == "__exit__"]
        self.assertEqual(len(found), 1)
        for part in found[0].body:
            self.assertIsInstance(part, ast.Assign)
            self.assertIsInstance(part.value, (ast.Attribute, ast.Name))

    def test_variables_of_comprehensions_within_others(self):
        kinds = (ast.ListComp, ast.SetComp, ast.DictComp)
        for file, function in parts(ast.FunctionDef):
            comprehensions = [part for part in ast.walk(function) if isinstance(part, kinds)]
            within = [part for some in comprehensions for part in ast.walk(some)]
            own = {part.id for part in ast.walk(function) if isinstance(part, ast.Name) and isinstance(part.ctx, ast.Store)
                   and part not in within}
            for outer in comprehensions:
                further_out = own | {name for generator in outer.generators for name in targets(generator.target)}
                for inner in [part for part in ast.walk(outer) if isinstance(part, kinds) and part != outer]:
                    names = {name for generator in inner.generators for name in targets(generator.target)}
                    self.assertEqual(names & further_out - {"_"}, set(), (file, function.name))

    def test_names_that_are_not_used(self):
        for file, tree in trees():
            names = targets(tree) + [part.name for part in ast.walk(tree) if isinstance(part, (ast.FunctionDef, ast.ClassDef))]
            names += [part.attr for part in ast.walk(tree) if isinstance(part, ast.Attribute)]
            for name in names:
                self.assertNotRegex(name, r"^(_wall|_pe_|_dcw_|_enum_|_cm_|_twin_re_|_lay_|_law_|_stub_|_sre|_WallAttr)", file)
                self.assertNotRegex(name, r"^(_cold|_tuplegetter|_outside|_record|_written_out|_member_names)[0-9_]*$", file)
                self.assertFalse(name.startswith("__") and name not in SPECIAL, file)

    def test_operators_change_nothing(self):
        functions = {}
        for _, part in parts(ast.FunctionDef):
            functions.setdefault(part.name, []).append(part)
        for _, part in parts(ast.ClassDef):
            functions[part.name] = [method for method in part.body if getattr(method, "name", "") == "__init__"]
        seen, left = set(), list(OPERATORS)
        while left:
            name = left.pop()
            if name not in seen:
                seen.add(name)
                for function in functions.get(name, []):
                    self.check_unchanged(function)
                    left += [called(part) for part in ast.walk(function) if isinstance(part, ast.Call)]
        self.assertTrue({"Tree", "Layer", "Stack", "word", "as_written", "misplaced", "is_node"} <= seen)

    def check_unchanged(self, function):
        """A function that an operator calls changes no object, and adds nothing up."""
        for part in ast.walk(function):
            self.assertNotIsInstance(part, (ast.AugAssign, ast.Yield, ast.Global, ast.Nonlocal), function.name)
            if isinstance(part, ast.Attribute) and isinstance(part.ctx, ast.Store):
                self.assertEqual([function.name, ast.unparse(part.value)], ["__init__", "self"])


if __name__ == "__main__":
    unittest.main()

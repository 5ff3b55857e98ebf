"""What of ../shared/LANGUAGE.md can be seen by looking at the files of the package."""

import ast
import builtins
import inspect
import keyword
import os
import re
import unittest

from tests.asked import FUNCTIONS
from tests.asked import METHODS as HOUSE_METHODS
from tests.test_errors import WITH_FIELD, WITHOUT_FIELD

FOLDER = os.path.join(os.path.dirname(os.path.dirname(os.path.abspath(__file__))), "withinbooks")
LIBRARY = {"heapq": {"heappush", "heappop", "heapify", "heapreplace", "heappushpop"},
           "math": {"gcd", "lcm", "isqrt", "comb", "perm", "factorial"},
           "itertools": {"product", "combinations", "permutations", "chain", "accumulate", "pairwise", "islice",
                         "zip_longest"},
           "collections": {"defaultdict"}}
BUILTINS = set(
    "len range enumerate zip min max sum abs sorted reversed int str bool bytes list tuple dict set frozenset "
    "isinstance ord repr any all divmod pow getattr hasattr setattr iter next map super property staticmethod "
    "classmethod Exception ValueError TypeError KeyError IndexError LookupError ZeroDivisionError ArithmeticError "
    "OverflowError RuntimeError NotImplementedError AttributeError StopIteration NotImplemented".split())
METHODS = set(
    "append clear copy count endswith extend find get index insert isalnum isalpha isdigit islower isspace isupper "
    "items join keys ljust lower lstrip partition pop remove replace reverse rfind rjust rpartition rsplit rstrip "
    "setdefault split splitlines startswith strip update upper values zfill bit_length add discard isascii".split())
NOWHERE = set("register mro elements open input law version_info with_traceback add_note".split())
NO_NAMES = set(
    "attrgetter breakpoint builtins compile copyright credits delattr dir eval exec exit gc getattr globals hasattr "
    "help id importlib license locals methodcaller os quit setattr super type vars sys".split())
NO_WORDS = set(
    "type typing typing_extensions enum Enum IntEnum StrEnum Flag IntFlag Generic Protocol ABC ABCMeta namedtuple "
    "NamedTuple TypedDict TYPE_CHECKING abstractmethod".split())
NO_FILES = set("test tests testing site conftest sitecustomize usercustomize heapq math itertools".split())
STATEMENTS = (ast.FunctionDef, ast.ClassDef, ast.ImportFrom, ast.Assign, ast.Expr)
FORBIDDEN = (ast.Global, ast.AsyncFunctionDef, ast.AsyncFor, ast.AsyncWith, ast.Await, ast.GeneratorExp, ast.Div,
             ast.Yield, ast.YieldFrom, ast.AnnAssign, ast.Import)


def file_names():
    return sorted(name for name in os.listdir(FOLDER) if name != "__pycache__")


def texts():
    """From each module's name to its text."""
    found = {}
    for name in file_names():
        with open(os.path.join(FOLDER, name), encoding="utf-8", newline="") as held:
            found[name[:-3]] = held.read()
    return found


def trees():
    return {name: ast.parse(text) for name, text in texts().items()}


def functions_in(tree):
    return [node for node in ast.walk(tree) if isinstance(node, ast.FunctionDef)]


def bound_in(function):
    """The names of a function's parameters, variables and nested functions."""
    names = [node.arg for node in ast.walk(function.args) if isinstance(node, ast.arg)]
    for node in ast.walk(function):
        if isinstance(node, ast.Name) and isinstance(node.ctx, ast.Store):
            names.append(node.id)
        if isinstance(node, ast.FunctionDef) and node is not function:
            names.append(node.name)
        if isinstance(node, ast.ExceptHandler) and node.name:
            names.append(node.name)
        if isinstance(node, ast.Lambda):
            names += [held.arg for held in ast.walk(node.args) if isinstance(held, ast.arg)]
    return names


def bound_at_top(tree):
    """The names that a file binds at module level, each as often as it does."""
    names = []
    for node in tree.body:
        if isinstance(node, (ast.FunctionDef, ast.ClassDef)):
            names.append(node.name)
        if isinstance(node, ast.ImportFrom):
            names += [held.asname or held.name for held in node.names]
        if isinstance(node, ast.Assign):
            names += [held.id for target in node.targets for held in ast.walk(target) if isinstance(held, ast.Name)]
    return names


class FilesTest(unittest.TestCase):
    def test_names_of_files(self):
        names = file_names()
        self.assertIn("__init__.py", names)
        self.assertLessEqual(len(names), 100)
        for name in names:
            self.assertTrue(re.fullmatch(r"[a-z][a-z0-9_]*\.py|__init__\.py", name), name)
            stem = name[:-3]
            self.assertFalse(stem in NO_FILES or stem in NOWHERE or stem in vars(builtins) or keyword.iskeyword(stem))
            self.assertFalse(stem.startswith(("law_", "test_")), name)

    def test_sizes_and_characters(self):
        for name, text in texts().items():
            lines = text.split("\n")
            self.assertLessEqual(len(text.splitlines()), 399, name)
            self.assertTrue(all(len(line) <= 120 for line in lines), name)
            self.assertTrue(all(sign == "\n" or " " <= sign <= "~" for sign in text), name)
            self.assertTrue(text.endswith("\n") and not any(line != line.rstrip() for line in lines), name)
            for node in functions_in(ast.parse(text)):
                self.assertLessEqual(node.end_lineno - node.lineno + 1, 40, (name, node.name))

    def test_what_stands_at_module_level(self):
        for name, tree in trees().items():
            for at, node in enumerate(tree.body):
                self.assertIsInstance(node, STATEMENTS, name)
                if isinstance(node, ast.Expr):
                    self.assertTrue(at == 0 and isinstance(node.value, ast.Constant), name)
                if isinstance(node, ast.Assign):
                    self.assertEqual([type(target) for target in node.targets], [ast.Name], name)
                    self.check_plain(node.value, name)

    def check_plain(self, value, name):
        """Lists and dictionaries hold no lists and dictionaries, nor do tuples."""
        inner = list(ast.walk(value))[1:]
        self.assertFalse([node for node in inner if isinstance(node, (ast.List, ast.Dict, ast.Set))], name)
        allowed = (ast.Constant, ast.Tuple, ast.List, ast.Dict, ast.Load, ast.UnaryOp, ast.USub, ast.Name)
        self.assertTrue(all(isinstance(node, allowed) for node in [value] + inner), name)


class ImportsTest(unittest.TestCase):
    def test_form_and_place(self):
        held = trees()
        for name, tree in held.items():
            body = tree.body[1:] if ast.get_docstring(tree) else tree.body
            others = [at for at, node in enumerate(body) if not isinstance(node, ast.ImportFrom)]
            imports = [node for node in ast.walk(tree) if isinstance(node, ast.ImportFrom)]
            self.assertEqual(body[:len(imports)], imports, name)
            self.assertTrue(all(at >= len(imports) for at in others), name)
            for node in imports:
                self.check_import(held, name, node)

    def check_import(self, held, name, node):
        self.assertEqual(node.level, 0, name)
        self.assertTrue(all(one.asname is None and one.name != "*" for one in node.names), name)
        names = [one.name for one in node.names]
        if node.module in LIBRARY:
            self.assertTrue(set(names) <= LIBRARY[node.module], name)
            return
        package, _, module = node.module.partition(".")
        self.assertEqual(package, "withinbooks", name)
        self.assertIn(module, held, name)
        defined = [top.name for top in held[module].body if isinstance(top, (ast.FunctionDef, ast.ClassDef))]
        values = [one.id for top in held[module].body if isinstance(top, ast.Assign) for one in top.targets]
        self.assertTrue(set(names) <= set(defined + values), (name, node.module))

    def test_every_import_is_used_and_none_goes_in_a_circle(self):
        held = trees()
        reached = {}
        for name, tree in held.items():
            used = {node.id for node in ast.walk(tree) if isinstance(node, ast.Name)}
            imports = [node for node in tree.body if isinstance(node, ast.ImportFrom)]
            self.assertTrue({one.name for node in imports for one in node.names} <= used, name)
            reached[name] = {node.module.partition(".")[2] for node in imports} & set(held)
        for _ in held:
            reached = {name: others | {far for other in others for far in reached[other]}
                       for name, others in reached.items()}
        self.assertFalse([name for name, others in reached.items() if name in others])


class NamesTest(unittest.TestCase):
    def test_one_binding_for_each_name(self):
        for name, tree in trees().items():
            top = bound_at_top(tree)
            self.assertEqual(len(top), len(set(top)), name)
            taken = {node.name for node in tree.body if isinstance(node, ast.ClassDef)}
            for node in tree.body:
                if isinstance(node, ast.ImportFrom):
                    taken |= {one.name for one in node.names}
            for function in functions_in(tree):
                self.assertFalse(taken & set(bound_in(function)), (name, function.name))

    def test_no_names_of_builtins_and_no_barred_names(self):
        for name, tree in trees().items():
            bound = bound_at_top(tree) + [one for function in functions_in(tree) for one in bound_in(function)]
            for one in bound:
                self.assertFalse(one in vars(builtins) or one in NOWHERE | NO_NAMES, (name, one))
                self.assertTrue(one == "_" or re.fullmatch(r"_?[A-Za-z][A-Za-z0-9_]*", one), (name, one))
                self.assertFalse(one.startswith(("_wall", "_pe_", "_dcw_", "_enum_", "_cm_", "_lay_", "_law_", "_stub_")))
            for node in ast.walk(tree):
                if isinstance(node, ast.Attribute):
                    self.assertFalse(node.attr in NOWHERE or node.attr.startswith("__"), (name, node.attr))
                if isinstance(node, ast.keyword):
                    self.assertNotIn(node.arg, NOWHERE, name)

    def test_no_barred_words(self):
        for name, text in texts().items():
            tree = ast.parse(text)
            kept = [node.id for node in ast.walk(tree) if isinstance(node, ast.Name)]
            kept += [node.attr for node in ast.walk(tree) if isinstance(node, ast.Attribute)]
            kept += [node.name for node in ast.walk(tree) if isinstance(node, (ast.FunctionDef, ast.ClassDef))]
            kept += [node.value for node in ast.walk(tree)
                     if isinstance(node, ast.Constant) and isinstance(node.value, str) and "\n" not in node.value]
            for one in kept:
                self.assertFalse(set(re.findall(r"\w+", one)) & NO_WORDS and " " not in one, (name, one))
            for word in ["dataclass", "overload", "contextmanager", "_wall", "_WallAttr"]:
                self.assertNotIn(word, text, name)

    def test_module_level_values_are_only_read(self):
        """A list or a dictionary there is not given another name, returned or passed on."""
        for name, tree in trees().items():
            held = [node.targets[0].id for node in tree.body
                    if isinstance(node, ast.Assign) and isinstance(node.value, (ast.List, ast.Dict))]
            for node in ast.walk(tree):
                passed = []
                if isinstance(node, ast.Call) and not (isinstance(node.func, ast.Name) and node.func.id in BUILTINS):
                    passed = node.args
                elif isinstance(node, (ast.Return, ast.Assign)):
                    passed = [node.value]
                self.assertFalse([one for one in passed if isinstance(one, ast.Name) and one.id in held], name)
                if isinstance(node, ast.Subscript) and not isinstance(node.ctx, ast.Load):
                    self.assertFalse(isinstance(node.value, ast.Name) and node.value.id in held, name)


class WordsOfTheLanguageTest(unittest.TestCase):
    def test_what_does_not_stand(self):
        for name, tree in trees().items():
            for node in ast.walk(tree):
                self.assertNotIsInstance(node, FORBIDDEN, name)
                if isinstance(node, (ast.FunctionDef, ast.ClassDef)):
                    self.assertEqual(node.decorator_list, [], name)
                if isinstance(node, ast.Constant):
                    self.assertFalse(isinstance(node.value, (float, complex)) or node.value is ..., name)
                    self.assertFalse(isinstance(node.value, str) and "%" in node.value, name)
                if isinstance(node, ast.Compare) and any(isinstance(one, (ast.Is, ast.IsNot)) for one in node.ops):
                    self.assertTrue(all(isinstance(one, ast.Constant) for one in node.comparators), name)

    def test_calls_and_methods(self):
        own = {node.name for tree in trees().values() for node in functions_in(tree)}
        own |= {node.name for tree in trees().values() for node in ast.walk(tree) if isinstance(node, ast.ClassDef)}
        for name, tree in trees().items():
            for node in ast.walk(tree):
                if isinstance(node, ast.Name) and isinstance(node.ctx, ast.Load) and node.id in vars(builtins):
                    self.assertIn(node.id, BUILTINS, name)
                if isinstance(node, ast.Call) and isinstance(node.func, ast.Attribute):
                    self.assertIn(node.func.attr, METHODS | own, name)

    def test_every_function_of_the_interface_stands_in_its_file(self):
        held = trees()
        for module, names in FUNCTIONS.items():
            top = [node.name for node in held[module].body if isinstance(node, (ast.FunctionDef, ast.ClassDef))]
            self.assertTrue(set(names) <= set(top), module)
        classes = [node.name for node in held["errors"].body if isinstance(node, ast.ClassDef)]
        self.assertEqual(sorted(classes), sorted(WITH_FIELD + WITHOUT_FIELD + ["PurseError"]))

    def methods_of(self, module, name):
        """From each method that stands in a class itself to its parameters."""
        [held] = [node for node in trees()[module].body if isinstance(node, ast.ClassDef) and node.name == name]
        return {node.name: [one.arg for one in node.args.args] for node in held.body if isinstance(node, ast.FunctionDef)}

    def test_every_method_of_the_interface_stands_in_its_class(self):
        self.assertEqual(self.methods_of("manuals", "Manual"), {
            "__init__": ["self", "manners", "beginnings", "ends"], "manners": ["self"], "beginnings": ["self"],
            "ends": ["self"], "__eq__": ["self", "other"]})
        methods = self.methods_of("house", "House")
        for name, arguments in HOUSE_METHODS.items():
            self.assertEqual(methods[name], ["self"] + [asked["name"] for asked in arguments])

    def test_no_name_is_a_method_and_an_attribute(self):
        """Not in one class, and, which is more than is asked for, in none of all classes."""
        all_methods, all_assigned = set(), set()
        for name, tree in trees().items():
            for held in [node for node in tree.body if isinstance(node, ast.ClassDef)]:
                methods = [node.name for node in held.body if isinstance(node, ast.FunctionDef)]
                self.assertEqual(len(methods), len(set(methods)), (name, held.name))
                all_methods |= set(methods)
                all_assigned |= {node.attr for node in ast.walk(held)
                                 if isinstance(node, ast.Attribute) and isinstance(node.ctx, ast.Store)}
        self.assertFalse(all_methods & all_assigned)

    def test_double_underscore_methods(self):
        known = {"__init__", "__eq__", "__enter__", "__exit__"}
        for name, tree in trees().items():
            for node in functions_in(tree):
                self.assertTrue(not node.name.startswith("__") or node.name in known, (name, node.name))
                if node.name == "__exit__":
                    self.assertTrue(all(isinstance(row, ast.Assign) and isinstance(row.value, ast.Attribute)
                                        for row in node.body), name)

    def test_every_file_and_function_tells_what_it_is_for(self):
        for name, tree in trees().items():
            self.assertTrue(ast.get_docstring(tree), name)
            for node in tree.body:
                if isinstance(node, (ast.FunctionDef, ast.ClassDef)) and not node.name.startswith("_"):
                    self.assertTrue(inspect.cleandoc(ast.get_docstring(node) or ""), (name, node.name))


if __name__ == "__main__":
    unittest.main()

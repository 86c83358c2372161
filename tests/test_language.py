"""Those rules for the program's code that are easily told: imports, sizes, signs, names, generators, properties."""

import ast
import builtins
import pathlib
import re
import unittest

FOLDER = pathlib.Path(__file__).resolve().parent.parent / "modesdown"
BUILTINS = set(
    "len range enumerate zip min max sum abs sorted reversed int str bool bytes list tuple dict set frozenset isinstance ord"
    " repr any all divmod pow getattr hasattr setattr iter next map property staticmethod classmethod super Exception"
    " ValueError TypeError KeyError IndexError LookupError ZeroDivisionError ArithmeticError OverflowError RuntimeError"
    " NotImplementedError AttributeError StopIteration NotImplemented".split()
)
LIBRARY = {"heapq", "math", "itertools", "collections", "__future__"}
# Beside what no rule allows: what this package does without, so that fewer rules have to be looked at.
BARRED = (
    ast.Global, ast.AsyncFunctionDef, ast.Await, ast.Import, ast.Div, ast.GeneratorExp, ast.AugAssign, ast.Lambda,
    ast.NamedExpr, ast.Match, ast.Nonlocal, ast.AnnAssign, ast.DictComp, ast.SetComp, ast.Set, ast.Try,
)
CATCHING = {"changes.py", "reading.py", "desk.py"}
# The methods of builtin values that may be called, and those of them that no method of the package may be called.
CALLED = set(
    "append clear copy count endswith extend find get index insert isalnum isalpha isdigit islower isspace isupper items"
    " join keys ljust lower lstrip partition pop remove replace reverse rfind rjust rpartition rsplit rstrip setdefault split"
    " splitlines startswith strip update upper values zfill bit_length".split()
)
OF_BUILTINS = {name for one in (str, int, list, dict, set, bytes, tuple) for name in dir(one)} - CALLED - {"add", "discard"}
DOUBLE = set(
    "init eq repr str len enter exit call iter lt le gt ge ne add sub mul floordiv mod pow and or xor lshift rshift radd rsub"
    " rmul rfloordiv rmod rand ror rxor rlshift rrshift iadd isub imul ifloordiv imod iand ior ixor neg pos invert abs bool"
    " contains getitem setitem".split()
)
WORDS = set(
    "type typing typing_extensions enum Enum IntEnum StrEnum Flag IntFlag Generic Protocol ABC ABCMeta namedtuple NamedTuple"
    " TypedDict TYPE_CHECKING abstractmethod register mro elements open input law version_info with_traceback add_note"
    " attrgetter breakpoint compile delattr dir eval exec exit gc globals hash help id locals os quit vars sys next filter"
    " round callable format object print".split()
)
ITERATED = {"list", "tuple", "dict", "sorted", "sum", "min", "max", "any", "all", "enumerate", "zip"}


def is_generator(function):
    return any(isinstance(node, (ast.Yield, ast.YieldFrom)) for node in ast.walk(function))


def is_setter(function):
    return any(isinstance(one, ast.Attribute) for one in function.decorator_list)


def called_name(call):
    """The name or the attribute that is called."""
    return call.func.id if isinstance(call.func, ast.Name) else getattr(call.func, "attr", None)


class Language(unittest.TestCase):
    def setUp(self):
        self.texts = {path.name: path.read_bytes().decode("utf-8") for path in FOLDER.rglob("*.py")}
        self.parsed = {name: ast.parse(text) for name, text in self.texts.items()}
        self.assertIn("__init__.py", self.texts)

    def nodes(self, *kinds):
        for name, tree in self.parsed.items():
            for node in ast.walk(tree):
                if not kinds or isinstance(node, kinds):
                    yield name, node

    def decorated(self, *told):
        """The names of the functions below these decorators."""
        return {
            node.name for name, node in self.nodes(ast.FunctionDef)
            if any(isinstance(one, ast.Name) and one.id in told for one in node.decorator_list)
        }

    def test_only_files_of_the_program(self):
        for path in FOLDER.rglob("*"):
            self.assertTrue(path.suffix == ".py" or path.name == "__pycache__" or path.suffix == ".pyc", path)

    def test_sizes_and_signs(self):
        for name, text in self.texts.items():
            self.assertLessEqual(len(text.splitlines()), 399, name)
            for line in text.split("\n"):
                self.assertLessEqual(len(line), 120, (name, line))
                self.assertTrue(all(" " <= sign <= "~" for sign in line), (name, line))

    def test_functions_are_small(self):
        for name, node in self.nodes(ast.FunctionDef):
            self.assertLessEqual(node.end_lineno - node.lineno + 1, 40, (name, node.name))

    def test_imports_and_statements(self):
        for name, node in self.nodes():
            if name not in CATCHING or not isinstance(node, ast.Try):
                self.assertNotIsInstance(node, BARRED, (name, getattr(node, "lineno", 0)))
            if isinstance(node, ast.ImportFrom):
                self.assertEqual(node.level, 0, name)
                self.assertTrue(node.module.split(".")[0] in LIBRARY | {"modesdown"}, (name, node.module))
                self.assertNotIn("*", [one.name for one in node.names])
                self.assertEqual([one.asname for one in node.names], [None] * len(node.names))

    def test_imports_name_the_file_that_defines(self):
        above = {}
        for name, tree in self.parsed.items():
            above[name] = set()
            used = {node.id for node in ast.walk(tree) if isinstance(node, ast.Name)}
            for node in tree.body:
                if isinstance(node, ast.ImportFrom):
                    other = node.module.split(".")[-1] + ".py"
                    above[name].add(other)
                    for one in node.names:
                        self.assertIn(one.name, self.bound(other, False), (name, one.name))
                        self.assertIn(one.name, used, (name, one.name))
        while above:
            free = [name for name in above if not above[name] & set(above)]
            self.assertTrue(free, above)
            for name in free:
                del above[name]

    def bound(self, name, imports):
        """The names that a file binds at module level."""
        found = []
        for node in self.parsed[name].body:
            if isinstance(node, (ast.FunctionDef, ast.ClassDef)):
                found.append(node.name)
            elif isinstance(node, ast.Assign):
                self.assertEqual(len(node.targets), 1, name)
                found.append(node.targets[0].id)
            elif isinstance(node, ast.ImportFrom) and imports:
                found += [one.name for one in node.names]
        return found

    def test_each_name_is_bound_once_at_module_level(self):
        for name in self.parsed:
            names = self.bound(name, True)
            self.assertEqual(sorted(names), sorted(set(names)), name)

    def test_names(self):
        known = set(dir(builtins))
        for name, node in self.nodes():
            if isinstance(node, ast.Name) and node.id in known:
                self.assertIn(node.id, BUILTINS, (name, node.lineno))
                self.assertIsInstance(node.ctx, ast.Load, (name, node.lineno))
            if isinstance(node, ast.arg):
                self.assertNotIn(node.arg, known, (name, node.lineno))

    def test_no_local_has_the_name_of_a_class_or_an_import(self):
        for name, tree in self.parsed.items():
            classes = {node.name for node in tree.body if isinstance(node, ast.ClassDef)}
            imports = {one.name for node in tree.body if isinstance(node, ast.ImportFrom) for one in node.names}
            functions = {node.name for node in tree.body if isinstance(node, ast.FunctionDef)}
            for function in ast.walk(tree):
                if isinstance(function, ast.FunctionDef):
                    for node in ast.walk(function):
                        local = node.arg if isinstance(node, ast.arg) else None
                        if isinstance(node, ast.Name) and isinstance(node.ctx, ast.Store):
                            local = node.id
                        self.assertNotIn(local, classes | imports | functions, (name, function.name))

    def test_words_that_are_not_used(self):
        for name, node in self.nodes():
            for field in ("id", "attr", "arg", "name"):
                self.assertNotIn(getattr(node, field, None), WORDS - {"format"}, (name, getattr(node, "lineno", 0)))
            if isinstance(node, ast.Attribute):
                self.assertNotEqual(node.attr, "format")
        for name, text in self.texts.items():
            self.assertIsNone(re.search(r"\(type\)|Meta|metaclass=|dataclass|overload|contextmanager|_wall", text), name)

    def test_no_percent_sign_in_a_string(self):
        for name, node in self.nodes(ast.Constant):
            if isinstance(node.value, str):
                self.assertNotIn(chr(37), node.value, (name, node.lineno))

    def test_methods(self):
        own = set()
        for name, node in self.nodes(ast.ClassDef):
            names = [one.name for one in node.body if isinstance(one, ast.FunctionDef) and not is_setter(one)]
            self.assertEqual(sorted(names), sorted(set(names)), node.name)
            own.update(names)
            self.assertEqual(node.decorator_list, [], node.name)
            for one in names:
                if one.startswith("__"):
                    self.assertIn(one[2:-2], DOUBLE, (node.name, one))
                else:
                    self.assertNotIn(one, OF_BUILTINS, (node.name, one))
        for name, node in self.nodes(ast.Call):
            if isinstance(node.func, ast.Attribute):
                self.assertIn(node.func.attr, own | CALLED, (name, node.lineno))

    def test_a_class_with_items_says_how_it_is_iterated(self):
        for name, node in self.nodes(ast.ClassDef):
            names = [one.name for one in node.body if isinstance(one, ast.FunctionDef)]
            self.assertEqual("__getitem__" in names, "__iter__" in names, node.name)
            self.assertFalse("__radd__" in names or "keys" in names)
            if node.bases and any(base.id != "ValueError" for base in node.bases):
                self.assertFalse([one for one in names if one[2:-2] in DOUBLE and one.startswith("__r") and one != "__repr__"])

    def test_properties(self):
        told = self.decorated("property")
        plain = {
            node.name for name, node in self.nodes(ast.FunctionDef) if not node.decorator_list
        }
        self.assertEqual(told & plain, set())
        self.assertEqual(told & (CALLED | OF_BUILTINS), set())
        self.assertEqual(self.decorated("staticmethod", "classmethod") & (told | plain), set())
        for name, node in self.nodes(ast.Call):
            if isinstance(node.func, ast.Attribute):
                self.assertNotIn(node.func.attr, told, (name, node.lineno))
        for name, node in self.nodes(ast.Attribute):
            if isinstance(node.ctx, ast.Store) and name != "errors.py":
                self.assertTrue(node.attr.startswith("_"), (name, node.attr))

    def test_a_property_that_is_assigned_anywhere_has_a_setter_everywhere(self):
        assigned = {node.attr for _, node in self.nodes(ast.Attribute) if isinstance(node.ctx, ast.Store)}
        self.assertLessEqual({"name", "word", "path", "line", "at"}, assigned)
        for name, node in self.nodes(ast.ClassDef):
            setters = {one.name for one in node.body if isinstance(one, ast.FunctionDef) and is_setter(one)}
            self.assertEqual(self.properties_of(node) & assigned, setters, (name, node.name))

    def properties_of(self, node):
        """The names of the properties of a class."""
        return {
            one.name for one in node.body if isinstance(one, ast.FunctionDef)
            and any(isinstance(told, ast.Name) and told.id == "property" for told in one.decorator_list)
        }

    def test_generators(self):
        generators = [node.name for name, node in self.nodes(ast.FunctionDef) if is_generator(node)]
        others = {node.name for name, node in self.nodes(ast.FunctionDef) if not is_generator(node)}
        self.assertEqual(sorted(generators), sorted(set(generators)))
        self.assertEqual(set(generators) & (others | CALLED), set())
        for name, node in self.nodes(ast.FunctionDef):
            # What is called by a generator's name is not a parameter or a local variable.
            local = {one.arg for one in ast.walk(node.args) if isinstance(one, ast.arg)}
            local |= {one.id for one in ast.walk(node) if isinstance(one, ast.Name) and isinstance(one.ctx, ast.Store)}
            called = {one.func.id for one in ast.walk(node) if isinstance(one, ast.Call) and isinstance(one.func, ast.Name)}
            self.assertEqual(local & called & set(generators), set(), (name, node.name))
        for name, node in self.nodes(ast.Attribute):
            if isinstance(node.ctx, ast.Store):
                self.assertNotIn(node.attr, generators, name)
        allowed = set()
        for name, node in self.nodes(ast.For, ast.YieldFrom):
            allowed.add(node.iter if isinstance(node, ast.For) else node.value)
        for name, node in self.nodes(ast.comprehension):
            allowed.add(node.iter)
        for name, node in self.nodes(ast.Call):
            if isinstance(node.func, ast.Name) and node.func.id in ITERATED:
                allowed.update(node.args)
        for name, node in self.nodes(ast.Call):
            if called_name(node) in generators:
                self.assertTrue(node in allowed, (name, node.lineno))
                for one in node.args:
                    self.assertIsInstance(one, (ast.Name, ast.Attribute, ast.Constant, ast.Starred), (name, node.lineno))

    def test_yields_are_statements_of_their_own(self):
        for name, node in self.nodes(ast.FunctionDef):
            statements = [one.value for one in ast.walk(node) if isinstance(one, ast.Expr)]
            for one in ast.walk(node):
                if isinstance(one, (ast.Yield, ast.YieldFrom)):
                    self.assertIn(one, statements, (name, node.name))
            if is_generator(node):
                self.assertEqual(node.decorator_list, [])
                self.assertFalse(node.name.startswith("__"))
                for one in ast.walk(node):
                    self.assertNotIsInstance(one, (ast.With, ast.Try))
                    if isinstance(one, ast.Return):
                        self.assertIsNone(one.value)

    def test_statements_that_are_values_are_calls(self):
        for name, node in self.nodes(ast.Expr):
            allowed = isinstance(node.value, (ast.Call, ast.Yield, ast.YieldFrom))
            self.assertTrue(allowed or isinstance(node.value, ast.Constant) and isinstance(node.value.value, str), (name, node.lineno))

    def test_stars_in_calls(self):
        for name, node in self.nodes(ast.Call):
            stars = [k for k, one in enumerate(node.args) if isinstance(one, ast.Starred)]
            for k in stars:
                self.assertIsInstance(node.args[k].value, (ast.Name, ast.Attribute, ast.List, ast.Tuple), (name, node.lineno))
            for one in node.args[stars[0] + 1:] if stars else []:
                self.assertIsInstance(one, (ast.Name, ast.Attribute, ast.Constant, ast.Starred), (name, node.lineno))

    def test_sets_and_sorting(self):
        for name, node in self.nodes(ast.Call):
            if isinstance(node.func, ast.Name) and node.func.id == "set":
                parents = [one for other, one in self.nodes(ast.Call) if node in one.args]
                self.assertEqual([one.func.id in ("sorted", "len") for one in parents], [True], (name, node.lineno))
            self.assertNotEqual(called_name(node), "sort", name)


if __name__ == "__main__":
    unittest.main()

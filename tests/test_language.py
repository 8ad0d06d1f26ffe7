"""Those rules of the program's language that can be seen file by file."""

import ast
import builtins
import importlib
import pathlib
import re
import tokenize
import unittest

FOLDER = pathlib.Path(__file__).resolve().parent.parent / "jointneeds"
FILES = sorted(FOLDER.glob("*.py"))

CALLED_BUILTINS = """
len range enumerate zip min max sum abs sorted reversed int str bool bytes list tuple dict set
frozenset isinstance ord repr any all divmod super Exception ValueError TypeError KeyError
IndexError LookupError ZeroDivisionError ArithmeticError OverflowError RuntimeError
NotImplementedError NotImplemented property staticmethod classmethod
""".split()

LIBRARY = {
    "heapq": {"heappush", "heappop", "heapify", "heapreplace", "heappushpop"},
    "math": {"gcd", "lcm", "isqrt", "comb", "perm", "factorial"},
    "itertools": {"product", "combinations", "permutations", "chain", "accumulate", "pairwise",
                  "islice", "zip_longest"},
    "collections": {"defaultdict", "deque"},
    "__future__": {"annotations"},
}

BARRED_NAMES = """
register mro elements open input law version_info with_traceback add_note attrgetter breakpoint
builtins compile copyright credits delattr dir eval exec exit gc globals help id importlib license
locals methodcaller os quit vars sys
""".split()

BARRED_WORDS = """
type typing typing_extensions enum Enum IntEnum StrEnum Flag IntFlag Generic Protocol ABC ABCMeta
namedtuple NamedTuple TypedDict TYPE_CHECKING abstractmethod
""".split()

SPECIAL_METHODS = """
__init__ __eq__ __repr__ __str__ __len__ __enter__ __exit__ __call__ __iter__
""".split()

BUILTIN_METHODS = """
append clear copy count endswith extend find get index insert isalnum isalpha isdigit islower isspace
isupper items join keys ljust lower lstrip partition pop remove replace reverse rfind rjust rpartition
rsplit rstrip setdefault split splitlines startswith strip update upper values zfill bit_length
""".split()

KEYWORDS = {
    "sorted": {"key", "reverse"}, "min": {"key", "default"}, "max": {"key", "default"}, "sum": {"start"},
    "enumerate": {"start"}, "zip": {"strict"},
}

BARRED_NODES = (
    ast.AsyncFor, ast.AsyncFunctionDef, ast.AsyncWith, ast.Await, ast.Div, ast.Global, ast.Import,
    ast.MatMult,
)


def tree_of(path):
    """The syntax tree of a file."""
    return ast.parse(path.read_text(encoding="utf-8"))


def bound_names(tree):
    """All names that a file gives to something."""
    for node in ast.walk(tree):
        if isinstance(node, (ast.FunctionDef, ast.ClassDef)):
            yield node.name
        if isinstance(node, ast.arg):
            yield node.arg
        if isinstance(node, ast.Name) and isinstance(node.ctx, ast.Store):
            yield node.id


def top_names(tree):
    """The names that a file defines at module level."""
    names = []
    for node in tree.body:
        if isinstance(node, (ast.FunctionDef, ast.ClassDef)):
            names.append(node.name)
        if isinstance(node, ast.Assign):
            names.append(node.targets[0].id)
    return names


class FileTests(unittest.TestCase):

    def test_the_folder_contains_nothing_else(self):
        for path in FOLDER.iterdir():
            if path.name != "__pycache__":
                self.assertRegex(path.name, r"^[a-z_][a-z0-9_]*\.py$")
        self.assertIn(FOLDER / "__init__.py", FILES)

    def test_characters_and_sizes(self):
        for path in FILES:
            with self.subTest(path.name):
                text = path.read_text(encoding="utf-8")
                self.assertRegex(text, r"\A[ -~\n]*\Z")
                lines = text.split("\n")
                self.assertLessEqual(len(lines), 400)
                self.assertLessEqual(max(len(line) for line in lines), 120)

    def test_functions_are_small(self):
        for path in FILES:
            for node in ast.walk(tree_of(path)):
                if isinstance(node, ast.FunctionDef):
                    with self.subTest(file=path.name, name=node.name):
                        self.assertLessEqual(node.end_lineno - node.lineno + 1, 40)

    def test_module_level(self):
        allowed = (ast.ImportFrom, ast.FunctionDef, ast.ClassDef, ast.Assign)
        for path in FILES:
            for k, node in enumerate(tree_of(path).body):
                with self.subTest(file=path.name, line=node.lineno):
                    is_docstring = k == 0 and isinstance(node, ast.Expr)
                    self.assertTrue(is_docstring or isinstance(node, allowed))

    def test_no_name_is_bound_twice_at_module_level(self):
        for path in FILES:
            tree = tree_of(path)
            names = top_names(tree)
            for node in tree.body:
                if isinstance(node, ast.ImportFrom):
                    names.extend(alias.name for alias in node.names)
            self.assertEqual(len(names), len(set(names)), path.name)


class ImportTests(unittest.TestCase):

    def imports(self, path):
        for node in ast.walk(tree_of(path)):
            if isinstance(node, ast.ImportFrom):
                yield node

    def test_only_the_package_and_the_library(self):
        for path in FILES:
            for node in self.imports(path):
                with self.subTest(file=path.name, line=node.lineno):
                    self.assertEqual(node.level, 0)
                    names = {alias.name for alias in node.names}
                    self.assertTrue(all(alias.asname is None for alias in node.names))
                    if node.module in LIBRARY:
                        self.assertLessEqual(names, LIBRARY[node.module])
                    else:
                        package, file = node.module.split(".")
                        self.assertEqual(package, "jointneeds")
                        self.assertLessEqual(names, set(top_names(tree_of(FOLDER / f"{file}.py"))))

    def test_no_two_files_import_from_each_other(self):
        needs = {}
        for path in FILES:
            needs[path.stem] = [
                node.module.split(".")[1] for node in self.imports(path) if node.module not in LIBRARY
            ]
        ready = []
        while len(ready) < len(needs):
            more = [file for file in needs if file not in ready and all(n in ready for n in needs[file])]
            self.assertTrue(more, "files import from each other")
            ready.extend(more)


class NameTests(unittest.TestCase):

    def test_bound_names(self):
        for path in FILES:
            for name in bound_names(tree_of(path)):
                with self.subTest(file=path.name, name=name):
                    if name not in SPECIAL_METHODS:
                        self.assertRegex(name, r"^_$|^_?[a-zA-Z][a-zA-Z0-9_]*$")
                        self.assertFalse(hasattr(builtins, name))
                        self.assertNotIn(name, BARRED_NAMES)

    def test_no_local_name_is_that_of_an_import_or_a_class(self):
        for path in FILES:
            tree = tree_of(path)
            taken = {node.name for node in tree.body if isinstance(node, ast.ClassDef)}
            for node in tree.body:
                if isinstance(node, ast.ImportFrom):
                    taken |= {alias.name for alias in node.names}
            for node in ast.walk(tree):
                if isinstance(node, ast.arg):
                    self.assertNotIn(node.arg, taken, path.name)
                if isinstance(node, ast.Name) and isinstance(node.ctx, ast.Store):
                    self.assertNotIn(node.id, taken, path.name)

    def test_only_some_builtins_are_used(self):
        for path in FILES:
            for node in ast.walk(tree_of(path)):
                if isinstance(node, ast.Name) and hasattr(builtins, node.id):
                    with self.subTest(file=path.name, line=node.lineno):
                        self.assertIn(node.id, CALLED_BUILTINS)

    def test_no_barred_word(self):
        for path in FILES:
            with open(path, "rb") as file:
                for token in tokenize.tokenize(file.readline):
                    is_docstring = token.string.startswith('"""')
                    if token.type in (tokenize.NAME, tokenize.STRING) and not is_docstring:
                        words = re.findall(r"\w+", token.string)
                        self.assertFalse(set(words) & set(BARRED_WORDS), (path.name, token.start))


def methods_of(tree):
    """The names of the methods that the classes of a file define."""
    for node in ast.walk(tree):
        if isinstance(node, ast.ClassDef):
            yield from (part.name for part in node.body if isinstance(part, ast.FunctionDef))


class CallTests(unittest.TestCase):

    def calls(self):
        for path in FILES:
            for node in ast.walk(tree_of(path)):
                if isinstance(node, ast.Call):
                    yield path, node

    def test_only_some_methods_are_called(self):
        own = {name for path in FILES for name in methods_of(tree_of(path))}
        for path, node in self.calls():
            if isinstance(node.func, ast.Attribute):
                with self.subTest(file=path.name, line=node.lineno):
                    self.assertIn(node.func.attr, own | set(BUILTIN_METHODS))

    def test_add_is_called_off_objects_of_the_package_only(self):
        """A class has a method of this name, so no set may call it (L24)."""
        for path, node in self.calls():
            if isinstance(node.func, ast.Attribute) and node.func.attr == "add":
                self.assertEqual((path.name, node.func.value.id), ("rising.py", "rising"))

    def test_keywords_of_builtins(self):
        for path, node in self.calls():
            if isinstance(node.func, ast.Name) and hasattr(builtins, node.func.id):
                with self.subTest(file=path.name, line=node.lineno):
                    names = {keyword.arg for keyword in node.keywords}
                    self.assertLessEqual(names, KEYWORDS.get(node.func.id, set()))

    def test_nothing_of_the_library_is_kept_or_passed_on(self):
        for path in FILES:
            tree = tree_of(path)
            called = {id(node.func) for node in ast.walk(tree) if isinstance(node, ast.Call)}
            names = {
                alias.name for node in tree.body if isinstance(node, ast.ImportFrom) and node.module in LIBRARY
                for alias in node.names
            }
            for node in ast.walk(tree):
                if isinstance(node, ast.Name) and node.id in names:
                    self.assertIn(id(node), called, (path.name, node.lineno))

    def test_generator_expressions_and_yields(self):
        for path in FILES:
            for node in ast.walk(tree_of(path)):
                self.assertNotIsInstance(node, (ast.GeneratorExp, ast.Yield, ast.YieldFrom, ast.Try, ast.With))

    def test_the_name_of_what_is_not_needed_is_never_read(self):
        for path in FILES:
            for node in ast.walk(tree_of(path)):
                if isinstance(node, ast.Name) and node.id == "_":
                    self.assertIsInstance(node.ctx, ast.Store, (path.name, node.lineno))


class SyntaxTests(unittest.TestCase):

    def test_nothing_outside_the_language(self):
        for path in FILES:
            for node in ast.walk(tree_of(path)):
                with self.subTest(file=path.name, node=type(node).__name__):
                    self.assertNotIsInstance(node, BARRED_NODES)
                    if isinstance(node, ast.Constant):
                        self.assertNotIsInstance(node.value, (float, complex))
                    if isinstance(node, ast.Constant) and isinstance(node.value, str):
                        self.assertNotIn("%", node.value)

    def test_sets_stand_where_they_may(self):
        for path in FILES:
            for node in ast.walk(tree_of(path)):
                iterated = [node.iter] if isinstance(node, (ast.For, ast.comprehension)) else []
                for thing in iterated:
                    self.assertNotIsInstance(thing, (ast.Set, ast.SetComp), path.name)

    def test_every_file_class_and_function_says_what_it_is_for(self):
        for path in FILES:
            module = importlib.import_module(f"jointneeds.{path.stem}")
            self.assertTrue(module.__doc__, path.name)
            for node in ast.walk(tree_of(path)):
                if isinstance(node, (ast.ClassDef, ast.FunctionDef)) and node.name != "__init__":
                    self.assertTrue(ast.get_docstring(node), (path.name, node.name))


if __name__ == "__main__":
    unittest.main()

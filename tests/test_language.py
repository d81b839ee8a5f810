"""Checks the files of the package against those rules of the language that can be seen one by one in the code."""

import ast
import builtins
import pathlib
import re
import unittest
import warnings

PACKAGE = pathlib.Path(__file__).resolve().parent.parent / "wendleaf"
FILES = {path.name: path.read_text(encoding="utf-8") for path in sorted(PACKAGE.glob("*.py"))}
TREES = {name: ast.parse(text) for name, text in FILES.items()}

LIBRARY = {
    "heapq": "heappush heappop heapify heapreplace heappushpop".split(),
    "math": "gcd lcm isqrt comb perm factorial".split(),
    "itertools": "product combinations permutations chain accumulate pairwise islice zip_longest".split(),
    "collections": ["defaultdict"],
    "__future__": ["annotations"],
}
BUILTINS = set(
    "len range enumerate zip min max sum abs sorted reversed int str bool list tuple dict set isinstance ord repr any all divmod pow"
    " iter next map Exception ValueError TypeError KeyError IndexError LookupError ZeroDivisionError ArithmeticError OverflowError"
    " RuntimeError NotImplementedError AttributeError StopIteration NotImplemented".split())
METHODS = set(
    "append clear copy count endswith extend find get index insert isalnum isalpha isdigit islower isspace isupper items join keys"
    " ljust lower lstrip partition pop remove replace reverse rfind rjust rpartition rsplit rstrip setdefault split splitlines"
    " startswith strip update upper values zfill bit_length removeprefix removesuffix rindex isascii isdecimal sort add discard"
    .split())
NEVER = set("register mro elements open input law version_info with_traceback add_note".split())
NO_NAMES = set(
    "attrgetter breakpoint builtins compile copyright credits delattr dir eval exec exit gc globals help id importlib license locals"
    " methodcaller os quit super type vars sys".split())
NO_WORDS = set(
    "typing typing_extensions enum Enum IntEnum StrEnum Flag IntFlag Generic Protocol ABC ABCMeta namedtuple NamedTuple TypedDict"
    " TYPE_CHECKING abstractmethod dataclass overload contextmanager _wall _WallAttr".split())
NO_NODES = (ast.Global, ast.AsyncFunctionDef, ast.AsyncFor, ast.AsyncWith, ast.Await, ast.Div, ast.Set, ast.SetComp, ast.Import)
DOUBLE = {"__init__"}


def nodes(kind):
    for name, tree in TREES.items():
        for node in ast.walk(tree):
            if isinstance(node, kind):
                yield name, node


def docstrings(tree):
    found = set()
    for node in ast.walk(tree):
        if isinstance(node, (ast.Module, ast.ClassDef, ast.FunctionDef)) and ast.get_docstring(node) is not None:
            found.add(node.body[0].value)
    return found


def bound_names(tree):
    """The names that functions, parameters and assignments bind, with their lines."""
    for node in ast.walk(tree):
        if isinstance(node, ast.Name) and isinstance(node.ctx, ast.Store):
            yield node.id, node.lineno
        elif isinstance(node, ast.arg):
            yield node.arg, node.lineno
        elif isinstance(node, ast.ExceptHandler) and node.name:
            yield node.name, node.lineno


def defined(tree):
    """The names of a file's module level, imports included."""
    names = []
    for node in tree.body:
        if isinstance(node, (ast.FunctionDef, ast.ClassDef)):
            names.append(node.name)
        elif isinstance(node, ast.Assign):
            names.extend(target.id for target in node.targets)
        elif isinstance(node, ast.ImportFrom):
            names.extend(alias.name for alias in node.names)
    return names


class Files(unittest.TestCase):
    def test_the_folder_contains_plain_files_alone(self):
        for path in PACKAGE.iterdir():
            if path.name != "__pycache__":
                self.assertRegex(path.name, r"^[a-z0-9_]+\.py$")
                self.assertFalse(path.stem in vars(builtins), path.name)
        self.assertIn("__init__.py", FILES)
        self.assertLessEqual(len(FILES), 100)

    def test_sizes_and_characters(self):
        for name, text in FILES.items():
            self.assertRegex(text, r"\A[ -~\n]*\Z", name)
            lines = text.split("\n")
            self.assertLessEqual(len(lines), 400, name)
            self.assertLessEqual(max(len(line) for line in lines), 120, name)
        for name, node in nodes(ast.FunctionDef):
            self.assertLessEqual(node.end_lineno - node.lineno + 1, 40, (name, node.name))

    def test_python_gives_no_warning(self):
        with warnings.catch_warnings():
            warnings.simplefilter("error")
            for name, text in FILES.items():
                compile(text, name, "exec")

    def test_words_that_do_not_occur(self):
        for name, text in FILES.items():
            code = "\n".join(line.partition("#")[0] for line in text.split("\n"))
            told = {node.value for node in docstrings(TREES[name])}
            for docstring in told:
                code = code.replace(docstring, "")
            self.assertEqual(set(re.findall(r"\w+", code)) & (NO_WORDS | {"type"}), set(), name)


class Levels(unittest.TestCase):
    def test_module_level(self):
        for name, tree in TREES.items():
            for index, node in enumerate(tree.body):
                if isinstance(node, ast.Expr):
                    self.assertTrue(index == 0 and isinstance(node.value, ast.Constant), (name, node.lineno))
                    continue
                self.assertIsInstance(node, (ast.ImportFrom, ast.FunctionDef, ast.ClassDef, ast.Assign), (name, node.lineno))
                if isinstance(node, ast.Assign):
                    self.assertEqual([target.__class__ for target in node.targets], [ast.Name], (name, node.lineno))
                    for part in list(ast.walk(node.value))[1:]:
                        self.assertNotIsInstance(part, (ast.List, ast.Dict, ast.Call), (name, node.lineno))

    def test_each_name_is_bound_once(self):
        for name, tree in TREES.items():
            names = defined(tree)
            self.assertEqual(sorted(names), sorted(set(names)), name)

    def test_no_local_name_hides_a_name_of_the_file(self):
        for name, tree in TREES.items():
            level = {node.lineno for node in tree.body if isinstance(node, ast.Assign)}
            for bound, line in bound_names(tree):
                if line not in level:
                    self.assertNotIn(bound, defined(tree), (name, line))

    def test_imports(self):
        for name, node in nodes(ast.ImportFrom):
            self.assertIn(node, TREES[name].body)
            self.assertEqual(node.level, 0)
            self.assertTrue(all(alias.asname is None for alias in node.names), name)
            if node.module in LIBRARY:
                self.assertLessEqual({alias.name for alias in node.names}, set(LIBRARY[node.module]))
                continue
            self.assertRegex(node.module, r"^wendleaf\.[a-z0-9]+$")
            there = TREES[node.module.partition(".")[2] + ".py"]
            own = {part.name for part in there.body if isinstance(part, (ast.FunctionDef, ast.ClassDef))}
            own |= {part.targets[0].id for part in there.body if isinstance(part, ast.Assign)}
            self.assertLessEqual({alias.name for alias in node.names}, own, name)

    def test_no_files_import_from_each_other(self):
        needs = {name: set() for name in TREES}
        for name, node in nodes(ast.ImportFrom):
            if node.module.startswith("wendleaf."):
                needs[name].add(node.module.partition(".")[2] + ".py")
        while needs:
            free = [name for name, others in needs.items() if not others & set(needs)]
            self.assertTrue(free, needs)
            for name in free:
                del needs[name]


class Code(unittest.TestCase):
    def test_no_other_statements_and_operators(self):
        for name, node in nodes(NO_NODES):
            self.fail((name, node))
        for name, node in nodes((ast.FunctionDef, ast.ClassDef)):
            allowed = ("property", "staticmethod", "classmethod")
            self.assertTrue(all(isinstance(each, ast.Name) and each.id in allowed for each in node.decorator_list), (name, node.name))

    def test_names(self):
        for name, tree in TREES.items():
            names = [node.name for node in ast.walk(tree) if isinstance(node, (ast.FunctionDef, ast.ClassDef))]
            names += [bound for bound, _ in bound_names(tree)]
            for bound in names:
                self.assertRegex(bound, r"^(_|_?[A-Za-z][A-Za-z0-9_]*|__init__)$", name)
                self.assertFalse(bound in vars(builtins), (name, bound))
                self.assertNotIn(bound, NEVER | NO_NAMES, name)
            for node in ast.walk(tree):
                if isinstance(node, ast.Attribute):
                    self.assertNotIn(node.attr, NEVER, (name, node.lineno))
                    self.assertTrue(not node.attr.startswith("__") or node.attr in DOUBLE, (name, node.lineno))

    def test_builtins(self):
        for name, node in nodes(ast.Name):
            if isinstance(node.ctx, ast.Load) and node.id in vars(builtins):
                self.assertIn(node.id, BUILTINS, (name, node.lineno))

    def test_methods(self):
        own = {node.name for _, node in nodes(ast.FunctionDef)} | {"__init__"}
        stored = {node.attr for _, node in nodes(ast.Attribute) if isinstance(node.ctx, ast.Store)}
        for name, node in nodes(ast.Attribute):
            self.assertIn(node.attr, METHODS | own | stored, (name, node.lineno))
        for name, node in nodes(ast.ClassDef):
            methods = [part.name for part in node.body if isinstance(part, ast.FunctionDef)]
            self.assertEqual(len(methods), len(set(methods)), (name, node.name))
            self.assertEqual(set(methods) & stored, set(), (name, node.name))

    def test_is_stands_beside_none_true_and_false(self):
        for name, node in nodes(ast.Compare):
            for operator, right in zip(node.ops, node.comparators):
                if isinstance(operator, (ast.Is, ast.IsNot)):
                    self.assertTrue(isinstance(right, ast.Constant) and right.value in (None, True, False), (name, node.lineno))

    def test_literals(self):
        for name, node in nodes(ast.Constant):
            self.assertNotIsInstance(node.value, (float, complex, bytes), (name, node.lineno))
            if isinstance(node.value, str) and node not in docstrings(TREES[name]):
                self.assertNotIn(chr(37), node.value, (name, node.lineno))
                self.assertNotRegex(node.value, r"\._+$|^__.*__$", (name, node.lineno))

    def test_errors(self):
        own = {node.name for node in TREES["errors.py"].body if isinstance(node, ast.ClassDef)}
        for name, node in nodes(ast.Raise):
            if node.exc is not None:
                self.assertIsInstance(node.exc, ast.Call, (name, node.lineno))
                self.assertIn(node.exc.func.id, own, (name, node.lineno))
        for name, node in nodes(ast.ExceptHandler):
            for each in node.type.elts if isinstance(node.type, ast.Tuple) else [node.type]:
                self.assertIn(each.id, own | {"KeyError", "ZeroDivisionError"}, (name, node.lineno))


if __name__ == "__main__":
    unittest.main()

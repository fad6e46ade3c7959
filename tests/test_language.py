"""The rules of the language that can be read off the files one by one."""

import ast
import builtins
import os
import unittest

PACKAGE = os.path.join(os.path.dirname(os.path.dirname(os.path.abspath(__file__))), "growfences")
LIBRARY = {
    "math": {"gcd", "lcm", "isqrt", "comb", "perm", "factorial"},
    "itertools": {"product", "combinations", "permutations"},
    "heapq": {"heappush", "heappop", "heapify", "heapreplace", "heappushpop"},
}
BUILTINS = set(
    "len range enumerate zip min max sum abs sorted reversed int str bool bytes list tuple dict set frozenset isinstance ord "
    "repr any all divmod pow Exception ValueError TypeError KeyError IndexError LookupError ZeroDivisionError "
    "NotImplemented super property".split()
)
METHODS = set(
    "append clear copy count endswith extend find get index insert isalnum isalpha isdigit islower isspace isupper items join "
    "keys ljust lower lstrip partition pop remove replace reverse rfind rjust rpartition rsplit rstrip setdefault split "
    "splitlines startswith strip update upper values zfill bit_length add discard isascii isdecimal removeprefix removesuffix __init__".split()
)
BARRED_NAMES = set("register mro elements open input law version_info with_traceback add_note type id dir vars".split())
BARRED_WORDS = ("typing", "dataclass", "overload", "contextmanager", "namedtuple", "_wall", "abstractmethod")
BARRED_NODES = (
    ast.Global, ast.AsyncFunctionDef, ast.AsyncFor, ast.AsyncWith, ast.Await, ast.Div, ast.Import, ast.MatMult, ast.Starred,
    ast.TryStar, ast.AnnAssign, ast.Nonlocal, ast.GeneratorExp, ast.Yield, ast.YieldFrom, ast.Match, ast.With,
)


def read_files():
    texts = {}
    for name in sorted(os.listdir(PACKAGE)):
        if name != "__pycache__":
            with open(os.path.join(PACKAGE, name), encoding="utf-8", newline="") as file:
                texts[name] = file.read()
    return texts


def bound_names(tree):
    """Every name that a file gives to something of its own."""
    names = []
    for node in ast.walk(tree):
        if isinstance(node, (ast.FunctionDef, ast.ClassDef)):
            names.append(node.name)
        elif isinstance(node, ast.arg):
            names.append(node.arg)
        elif isinstance(node, ast.Name) and not isinstance(node.ctx, ast.Load):
            names.append(node.id)
        elif isinstance(node, ast.alias):
            names.append(node.asname or node.name)
    return names


class TestLanguage(unittest.TestCase):
    def setUp(self):
        self.texts = read_files()
        self.trees = {name: ast.parse(text) for name, text in self.texts.items()}

    def test_files(self):
        self.assertIn("__init__.py", self.texts)
        for name, text in self.texts.items():
            with self.subTest(name=name):
                self.assertRegex(name, r"\A([a-z][a-z0-9_]*|__init__|__main__)\.py\Z")
                self.assertTrue(all(sign == "\n" or " " <= sign <= "~" for sign in text))
                self.assertTrue(text.endswith("\n"))
                self.assertLessEqual(len(text.splitlines()), 399)
                self.assertLessEqual(max(len(line) for line in text.splitlines()), 120)
                self.assertFalse([word for word in BARRED_WORDS if word in text])

    def test_functions_are_short(self):
        for name, tree in self.trees.items():
            for node in ast.walk(tree):
                if isinstance(node, ast.FunctionDef):
                    self.assertLessEqual(node.end_lineno - node.lineno + 1, 40, (name, node.name))
                    self.assertTrue(node.name.startswith("__") or ast.get_docstring(node), (name, node.name))

    def test_module_level(self):
        kinds = (ast.ImportFrom, ast.FunctionDef, ast.ClassDef, ast.Assign)
        for name, tree in self.trees.items():
            self.assertTrue(ast.get_docstring(tree), name)
            for node in tree.body[1:]:
                self.assertIsInstance(node, kinds, (name, node.lineno))
                if isinstance(node, ast.Assign):
                    self.assertFalse([part for part in ast.walk(node.value) if isinstance(part, ast.Call)])

    def test_imports(self):
        defined = {}
        for name, tree in self.trees.items():
            own = [node.name for node in tree.body if isinstance(node, (ast.FunctionDef, ast.ClassDef))]
            own += [node.targets[0].id for node in tree.body if isinstance(node, ast.Assign)]
            self.assertEqual(len(own), len(set(own)), name)
            defined["growfences." + name[:-3]] = set(own)
        for name, tree in self.trees.items():
            for node in ast.walk(tree):
                if isinstance(node, ast.ImportFrom):
                    known = LIBRARY.get(node.module) or defined.get(node.module, set())
                    self.assertEqual(node.level, 0)
                    for alias in node.names:
                        self.assertIn(alias.name, known, name)
                        self.assertIs(alias.asname, None)

    def test_no_imports_in_a_circle(self):
        needs = {
            name: {node.module.split(".")[-1] + ".py" for node in tree.body if isinstance(node, ast.ImportFrom)}
            for name, tree in self.trees.items()
        }
        left = set(needs)
        while left:
            free = {name for name in left if not needs[name] & left}
            self.assertTrue(free, left)
            left -= free

    def test_nodes(self):
        for name, tree in self.trees.items():
            for node in ast.walk(tree):
                where = (name, getattr(node, "lineno", None))
                self.assertNotIsInstance(node, BARRED_NODES, where)
                for decorator in getattr(node, "decorator_list", []):
                    self.assertEqual(ast.unparse(decorator), "property", where)
                if isinstance(node, ast.Constant):
                    self.assertNotIsInstance(node.value, (float, complex), where)
                    self.assertFalse(isinstance(node.value, str) and "%" in node.value, where)
                if isinstance(node, ast.BinOp) and isinstance(node.op, ast.Pow):
                    self.assertIsInstance(node.right, ast.Constant, where)

    def test_names(self):
        for name, tree in self.trees.items():
            bound = bound_names(tree)
            for word in bound:
                self.assertFalse(word in BARRED_NAMES or (hasattr(builtins, word) and not word.startswith("__")), (name, word))
            for node in ast.walk(tree):
                if isinstance(node, ast.Name) and node.id not in bound:
                    self.assertIn(node.id, BUILTINS, (name, node.lineno))

    def test_no_local_name_hides_a_class_or_an_import(self):
        for name, tree in self.trees.items():
            outer = {alias.name for node in tree.body if isinstance(node, ast.ImportFrom) for alias in node.names}
            outer |= {node.name for node in tree.body if isinstance(node, (ast.ClassDef, ast.FunctionDef))}
            for node in tree.body:
                if isinstance(node, (ast.FunctionDef, ast.ClassDef)):
                    inner = {word for part in node.body for word in bound_names(part)} - {"__init__"}
                    inner |= {part.arg for part in ast.walk(node) if isinstance(part, ast.arg)}
                    self.assertFalse(inner & outer, (name, node.name))

    def test_methods(self):
        own = {
            node.name for tree in self.trees.values() for part in tree.body if isinstance(part, ast.ClassDef)
            for node in part.body if isinstance(node, ast.FunctionDef)
        }
        for name, tree in self.trees.items():
            for node in ast.walk(tree):
                if isinstance(node, ast.Call) and isinstance(node.func, ast.Attribute):
                    self.assertIn(node.func.attr, METHODS | own, (name, node.lineno))


if __name__ == "__main__":
    unittest.main()

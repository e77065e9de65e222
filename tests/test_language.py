"""Those rules of the language of the package that can be read off its files."""

import ast
import builtins
import re
import unittest
from pathlib import Path

PACKAGE = Path(__file__).resolve().parent.parent / "fewestlines"
FILES = sorted(PACKAGE.glob("*.py"))

LIBRARY = {
    "heapq": {"heappush", "heappop", "heapify", "heapreplace", "heappushpop"},
    "math": {"gcd", "lcm", "isqrt", "comb", "perm", "factorial"},
    "itertools": {"product", "combinations", "permutations", "chain", "accumulate", "pairwise",
                  "islice", "zip_longest"},
    "collections": {"defaultdict"},
    "__future__": {"annotations"},
}
ALLOWED = set("""
    len range enumerate zip min max sum abs sorted reversed int str bool list tuple dict set frozenset
    isinstance ord repr any all divmod pow getattr hasattr setattr iter next map super property
    staticmethod classmethod Exception ValueError TypeError KeyError IndexError LookupError
    ZeroDivisionError ArithmeticError OverflowError RuntimeError NotImplementedError AttributeError
    StopIteration NotImplemented
    """.split())
METHODS = set("""
    append clear copy count endswith extend find get index insert isalnum isalpha isdigit islower
    isspace isupper items join keys ljust lower lstrip partition pop remove replace reverse rfind
    rjust rpartition rsplit rstrip setdefault split splitlines startswith strip update upper values
    zfill bit_length sort format isascii
    """.split())
WORDS = re.compile(r"\b(type|typing|enum|Enum|Flag|Generic|Protocol|ABC|NamedTuple|namedtuple|TypedDict"
                   r"|register|mro|elements|open|input|law|eval|exec|globals|locals|vars|__dict__)\b")
NODES = (ast.Global, ast.AsyncFunctionDef, ast.AsyncFor, ast.AsyncWith, ast.Await, ast.Div,
         ast.MatMult)
BARRED_ATTRIBUTES = set("""
    items keys values pop update append clear extend insert remove reverse setdefault sort args encode
    decode hex fromhex format
    """.split())


def functions_of(tree):
    """All functions and methods of a file."""
    return [node for node in ast.walk(tree) if isinstance(node, ast.FunctionDef)]


def without_comments(tree):
    """The code of a file without its comments and docstrings."""
    for node in ast.walk(tree):
        if isinstance(node, (ast.Module, ast.ClassDef, ast.FunctionDef)) and ast.get_docstring(node):
            node.body = node.body[1:] or [ast.Pass()]
    return ast.unparse(tree)


class Language(unittest.TestCase):
    def setUp(self):
        self.texts = {path.name: path.read_text(encoding="utf-8") for path in FILES}
        self.trees = {name: ast.parse(text) for name, text in self.texts.items()}

    def test_the_package_holds_plain_files_only(self):
        self.assertIn("__init__.py", self.texts)
        for path in PACKAGE.iterdir():
            if path.name != "__pycache__":
                self.assertRegex(path.name, r"^[a-z0-9_]+\.py$")

    def test_sizes_and_characters(self):
        for name, text in self.texts.items():
            lines = text.splitlines()
            self.assertLessEqual(len(lines), 399, name)
            for line in lines:
                self.assertLessEqual(len(line), 120, (name, line))
                self.assertRegex(line, r"^[ -~]*$", name)
            for function in functions_of(self.trees[name]):
                self.assertLessEqual(function.end_lineno - function.lineno, 39, (name, function.name))

    def test_imports(self):
        for name, tree in self.trees.items():
            for node in ast.walk(tree):
                self.assertNotIsInstance(node, ast.Import, name)
                if not isinstance(node, ast.ImportFrom):
                    continue
                self.assertIn(node, tree.body)
                self.assertEqual(node.level, 0)
                names = {alias.name for alias in node.names}
                self.assertEqual([alias.asname for alias in node.names if alias.asname], [])
                if node.module in LIBRARY:
                    self.assertLessEqual(names, LIBRARY[node.module])
                    continue
                package, _, module = node.module.partition(".")
                self.assertEqual(package, "fewestlines")
                defined = {item.name for item in self.trees[f"{module}.py"].body
                           if isinstance(item, (ast.FunctionDef, ast.ClassDef))}
                self.assertLessEqual(names, defined, (name, node.module))

    def test_no_circle_of_imports(self):
        needs = {name: {f"{node.module.partition('.')[2]}.py" for node in tree.body
                        if isinstance(node, ast.ImportFrom) and node.module.startswith("fewestlines.")}
                 for name, tree in self.trees.items()}
        while needs:
            free = [name for name, others in needs.items() if not others & set(needs)]
            self.assertTrue(free, needs)
            for name in free:
                del needs[name]

    def test_statements_and_signs(self):
        for name, tree in self.trees.items():
            for node in tree.body:
                self.assertIsInstance(node, (ast.Expr, ast.ImportFrom, ast.FunctionDef, ast.ClassDef,
                                             ast.Assign), name)
            for node in ast.walk(tree):
                self.assertNotIsInstance(node, NODES, name)
                if isinstance(node, ast.Constant):
                    self.assertNotIsInstance(node.value, (float, complex), name)
                    if isinstance(node.value, str):
                        self.assertNotIn("%", node.value, name)

    def test_builtins_and_methods(self):
        own = {function.name for tree in self.trees.values() for function in functions_of(tree)}
        for name, tree in self.trees.items():
            for node in ast.walk(tree):
                if isinstance(node, ast.Name) and hasattr(builtins, node.id):
                    self.assertIsInstance(node.ctx, ast.Load, (name, node.id))
                    self.assertIn(node.id, ALLOWED, name)
                if isinstance(node, ast.arg):
                    self.assertFalse(hasattr(builtins, node.arg), (name, node.arg))
                if isinstance(node, ast.Call) and isinstance(node.func, ast.Attribute):
                    self.assertIn(node.func.attr, METHODS | own, name)

    def test_imported_names_are_used_and_stand_for_nothing_else(self):
        for name, tree in self.trees.items():
            imported = {alias.name for node in tree.body if isinstance(node, ast.ImportFrom) for alias in node.names}
            classes = {node.name for node in tree.body if isinstance(node, ast.ClassDef)}
            used = {node.id for node in ast.walk(tree) if isinstance(node, ast.Name)}
            self.assertLessEqual(imported, used, name)
            for function in functions_of(tree):
                names = {node.arg for node in ast.walk(function) if isinstance(node, ast.arg)}
                names |= {node.id for node in ast.walk(function)
                          if isinstance(node, ast.Name) and isinstance(node.ctx, ast.Store)}
                self.assertFalse(names & (imported | classes), (name, function.name))

    def test_values_of_modules(self):
        for name, tree in self.trees.items():
            for node in tree.body:
                if isinstance(node, ast.Assign):
                    self.assertEqual([target.id for target in node.targets], [node.targets[0].id])
                    value = ast.literal_eval(node.value)
                    parts = list(value.values()) if isinstance(value, dict) else value
                    if isinstance(parts, (list, tuple)):
                        self.assertFalse([part for part in parts if isinstance(part, (list, dict, set))], name)

    def test_comparisons_and_handlers(self):
        own = {node.name for node in self.trees["errors.py"].body if isinstance(node, ast.ClassDef)}
        for name, tree in self.trees.items():
            for node in ast.walk(tree):
                if isinstance(node, ast.Compare):
                    for sign, other in zip(node.ops, node.comparators):
                        if isinstance(sign, (ast.Is, ast.IsNot)):
                            self.assertIsInstance(other, ast.Constant, name)
                            self.assertIn(other.value, (None, True, False))
                if isinstance(node, ast.ExceptHandler):
                    self.assertIn(node.type.id, own, name)
                if isinstance(node, ast.Raise):
                    self.assertIsInstance(node.exc, ast.Call, name)
                    self.assertIn(node.exc.func.id, own, name)

    def test_attributes_and_methods(self):
        for name, tree in self.trees.items():
            for node in tree.body:
                if isinstance(node, ast.ClassDef):
                    methods = {item.name for item in node.body if isinstance(item, ast.FunctionDef)}
                    fields = {item.attr for item in ast.walk(node)
                              if isinstance(item, ast.Attribute) and isinstance(item.ctx, ast.Store)}
                    self.assertFalse(methods & fields, (name, node.name))
                    self.assertFalse(fields & BARRED_ATTRIBUTES, (name, node.name))
            for function in functions_of(tree):
                self.assertFalse(function.decorator_list, (name, function.name))
                if function.name != "__init__":
                    self.assertIsNotNone(ast.get_docstring(function), (name, function.name))

    def test_words(self):
        for name, tree in self.trees.items():
            self.assertIsNone(WORDS.search(without_comments(tree)), name)


if __name__ == "__main__":
    unittest.main()

"""Some rules of the language of the package that can be counted, by their numbers."""

import ast
import builtins
import pathlib
import re
import unittest

PACKAGE = pathlib.Path(__file__).resolve().parent.parent / "keptlengths"
FILES = sorted(PACKAGE.rglob("*.py"))
LIBRARY = {
    "heapq": {"heappush", "heappop", "heapify", "heapreplace", "heappushpop"},
    "math": {"gcd", "lcm", "isqrt", "comb", "perm", "factorial"},
    "itertools": {"product", "combinations", "permutations", "chain", "accumulate", "pairwise",
                  "islice", "zip_longest"},
    "collections": {"defaultdict", "deque"},
}
BUILTINS = set("""
    len range enumerate zip min max sum abs sorted reversed int str bool bytes list tuple dict set
    frozenset isinstance ord repr any all divmod pow getattr hasattr setattr iter next map super
    property staticmethod classmethod object type Exception ValueError TypeError KeyError
    IndexError LookupError ZeroDivisionError ArithmeticError OverflowError RuntimeError
    NotImplementedError AttributeError StopIteration NotImplemented
""".split())
METHODS = set("""
    append clear copy count endswith extend find get index insert isalnum isalpha isdigit islower
    isspace isupper items join keys ljust lower lstrip partition pop remove replace reverse rfind
    rjust rpartition rsplit rstrip setdefault split splitlines startswith strip update upper
    values zfill bit_length add discard sort
""".split())
BARRED = re.compile(r"\b(register|mro|elements|open|input|law|version_info|with_traceback"
                    r"|add_note|typing|enum|namedtuple|dataclass|eval|exec|globals|locals)\b")
FORBIDDEN = (
    ast.AsyncFunctionDef, ast.Await, ast.AsyncFor, ast.AsyncWith, ast.Div, ast.TryStar,
)


def functions_of(tree):
    return [node for node in ast.walk(tree) if isinstance(node, ast.FunctionDef)]


def names_bound(tree):
    """All names that a file gives a meaning."""
    found = set()
    for node in ast.walk(tree):
        if isinstance(node, (ast.FunctionDef, ast.ClassDef)):
            found.add(node.name)
        elif isinstance(node, ast.arg):
            found.add(node.arg)
        elif isinstance(node, ast.Name) and not isinstance(node.ctx, ast.Load):
            found.add(node.id)
        elif isinstance(node, ast.alias):
            found.add(node.asname or node.name)
        elif isinstance(node, ast.ExceptHandler) and node.name:
            found.add(node.name)
    return found


def own_methods():
    """The names of all methods of the package."""
    return {function.name for _name, _text, tree in PARSED for node in ast.walk(tree)
            if isinstance(node, ast.ClassDef) for function in functions_of(node)}


# Each file by its name, its text and its tree.
PARSED = [(file.name, file.read_text(), ast.parse(file.read_text())) for file in FILES]


class Language(unittest.TestCase):
    def test_l1_l14_files(self):
        self.assertTrue(FILES)
        for path in PACKAGE.rglob("*"):
            if "__pycache__" not in path.parts and path.is_file():
                self.assertRegex(path.name, r"^([a-z][a-z0-9_]*|__init__|__main__)\.py$")
        for name, text, tree in PARSED:
            self.assertRegex(text, r"\A[\n -~]*\Z", name)

    def test_l2_l16_imports(self):
        for name, text, tree in PARSED:
            for node in ast.walk(tree):
                if isinstance(node, ast.ImportFrom):
                    names = {alias.name for alias in node.names}
                    self.assertTrue(all(alias.asname is None for alias in node.names))
                    self.assertIn(node, tree.body)
                    if not node.module.startswith("keptlengths."):
                        self.assertLessEqual(names, LIBRARY[node.module], name)
                        continue
                    source = PACKAGE.parent.joinpath(*node.module.split(".")).with_suffix(".py")
                    held = {inner.name if hasattr(inner, "name") else inner.targets[0].id
                            for inner in ast.parse(source.read_text()).body
                            if isinstance(inner, (ast.FunctionDef, ast.ClassDef, ast.Assign))}
                    self.assertLessEqual(names, held, name)

    def test_l6_l7_statements_and_expressions(self):
        for name, text, tree in PARSED:
            for node in ast.walk(tree):
                self.assertNotIsInstance(node, FORBIDDEN, name)
                if isinstance(node, ast.Constant):
                    self.assertNotIsInstance(node.value, (float, complex), name)

    def test_l7_no_generator_expressions_beside_an_own_equality(self):
        for name, text, tree in PARSED:
            for node in ast.walk(tree):
                self.assertNotIsInstance(node, ast.GeneratorExp, name)

    def test_l20_is(self):
        for name, text, tree in PARSED:
            for node in ast.walk(tree):
                if isinstance(node, ast.Compare) and isinstance(node.ops[0], (ast.Is, ast.IsNot)):
                    self.assertIsInstance(node.comparators[0], ast.Constant, name)

    def test_l27_exponents(self):
        for name, text, tree in PARSED:
            for node in ast.walk(tree):
                if isinstance(node, ast.BinOp) and isinstance(node.op, ast.Pow):
                    self.assertIsInstance(node.right, ast.Constant, name)
                    self.assertLessEqual(node.right.value, 64, name)

    def test_l8_l15_names(self):
        for name, text, tree in PARSED:
            bound = names_bound(tree)
            self.assertFalse([word for word in bound if word in vars(builtins)], name)
            for node in ast.walk(tree):
                if isinstance(node, ast.Name) and node.id not in bound:
                    self.assertIn(node.id, BUILTINS, name)

    def test_l15_no_variable_is_called_as_what_its_file_imports_or_defines(self):
        for name, text, tree in PARSED:
            held = {alias.name for node in tree.body if isinstance(node, ast.ImportFrom) for alias in node.names}
            held |= {node.name for node in tree.body if isinstance(node, (ast.ClassDef, ast.FunctionDef))}
            for node in ast.walk(tree):
                if isinstance(node, ast.arg):
                    self.assertNotIn(node.arg, held, name)
                if isinstance(node, ast.Name) and not isinstance(node.ctx, ast.Load):
                    self.assertNotIn(node.id, held, name)

    def test_l18_no_name_is_a_method_and_an_attribute(self):
        methods = own_methods()
        for name, text, tree in PARSED:
            for node in ast.walk(tree):
                if isinstance(node, ast.Attribute) and not isinstance(node.ctx, ast.Load):
                    self.assertNotIn(node.attr, methods, name)

    def test_l10_size(self):
        for name, text, tree in PARSED:
            self.assertLessEqual(text.count("\n"), 399, name)
            self.assertLessEqual(max(map(len, text.split("\n"))), 120, name)
            for node in functions_of(tree):
                self.assertLessEqual(node.end_lineno - node.lineno + 1, 40, node.name)

    def test_l17_words(self):
        for name, text, tree in PARSED:
            self.assertIsNone(BARRED.search(text), name)

    def test_l25_methods(self):
        own = own_methods()
        for name, text, tree in PARSED:
            for node in ast.walk(tree):
                if isinstance(node, ast.Call) and isinstance(node.func, ast.Attribute):
                    self.assertIn(node.func.attr, METHODS | own, name)

    def test_l27_no_percent_in_strings(self):
        for name, text, tree in PARSED:
            for node in ast.walk(tree):
                if isinstance(node, ast.Constant) and isinstance(node.value, str):
                    self.assertNotIn("%", node.value, name)


if __name__ == "__main__":
    unittest.main()

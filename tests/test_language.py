"""The package keeps to those rules of LANGUAGE.md that can be read off its files."""

import ast
import builtins
import pathlib
import re
import unittest

PACKAGE = pathlib.Path(__file__).resolve().parent.parent / "tensloft"
FILES = sorted(PACKAGE.glob("*.py"))

ALLOWED_BUILTINS = set(
    "len range enumerate zip min max sum abs sorted reversed int str bool bytes list tuple dict set frozenset "
    "isinstance ord repr any all divmod iter next super property staticmethod classmethod "
    "Exception ValueError TypeError KeyError IndexError LookupError ZeroDivisionError ArithmeticError "
    "OverflowError RuntimeError NotImplementedError AttributeError StopIteration NotImplemented".split()
)
BARRED_WORDS = (
    "type typing typing_extensions enum Enum IntEnum StrEnum Flag IntFlag Generic Protocol ABC ABCMeta namedtuple "
    "NamedTuple TypedDict TYPE_CHECKING abstractmethod"
).split()
BUILTIN_METHODS = (
    "append clear copy count endswith extend find get index insert isalnum isalpha isdigit islower isspace isupper "
    "items join keys ljust lower lstrip partition pop remove replace reverse rfind rjust rpartition rsplit rstrip "
    "setdefault split splitlines startswith strip update upper values zfill bit_length removeprefix removesuffix"
).split()
BARRED_NODES = (ast.Global, ast.AsyncFunctionDef, ast.AsyncFor, ast.AsyncWith, ast.Await, ast.Div, ast.Import)


def names_bound(node):
    if isinstance(node, ast.Name) and isinstance(node.ctx, ast.Store):
        return [node.id]
    if isinstance(node, ast.arg):
        return [node.arg]
    if isinstance(node, (ast.FunctionDef, ast.ClassDef)):
        return [node.name]
    return []


class LanguageTest(unittest.TestCase):
    def trees(self):
        for path in FILES:
            yield path.name, ast.parse(path.read_text("utf-8"))

    def nodes(self):
        for name, tree in self.trees():
            for node in ast.walk(tree):
                yield name, node

    def test_the_folder(self):
        self.assertIn("__init__.py", [path.name for path in FILES])
        others = [path.name for path in PACKAGE.iterdir() if path not in FILES and path.name != "__pycache__"]
        self.assertEqual(others, [])

    def test_lines_and_characters(self):
        for path in FILES:
            text = path.read_bytes().decode("ascii")
            self.assertIsNone(re.search("[^ -~\n]", text), path.name)
            self.assertLess(len(text.splitlines()), 400, path.name)
            self.assertLessEqual(max(map(len, text.splitlines())), 120, path.name)

    def test_functions_are_short(self):
        for name, node in self.nodes():
            if isinstance(node, ast.FunctionDef):
                self.assertLessEqual(node.end_lineno - node.lineno + 1, 40, (name, node.name))

    def test_words_and_statements(self):
        for path in FILES:
            self.assertIsNone(re.search(r"\b(%s)\b" % "|".join(BARRED_WORDS), path.read_text()), path.name)
        for name, node in self.nodes():
            self.assertNotIsInstance(node, BARRED_NODES, name)
            if isinstance(node, ast.Constant):
                self.assertNotIsInstance(node.value, (float, complex), name)
                if isinstance(node.value, str):
                    self.assertNotIn("%", node.value, name)

    def test_module_level(self):
        for name, tree in self.trees():
            for node in tree.body[1:]:
                self.assertIsInstance(node, (ast.ImportFrom, ast.FunctionDef, ast.ClassDef, ast.Assign), name)
                if isinstance(node, ast.Assign):
                    self.assertEqual([type(target) for target in node.targets], [ast.Name], name)
                    for inner in ast.walk(node.value):
                        self.assertNotIsInstance(inner, (ast.Call, ast.Lambda, ast.ListComp, ast.GeneratorExp), name)

    def test_methods_are_own_or_allowed(self):
        own = [node.name for name, node in self.nodes() if isinstance(node, ast.FunctionDef)]
        for name, node in self.nodes():
            if isinstance(node, ast.Call) and isinstance(node.func, ast.Attribute):
                self.assertIn(node.func.attr, own + BUILTIN_METHODS, (name, node.lineno))

    def test_what_is_iterated_at_once_comes_first(self):
        for name, node in self.nodes():
            if isinstance(node, ast.Call) and isinstance(node.func, ast.Name) and node.func.id == "zip":
                for argument in node.args[1:]:
                    called = argument.func if isinstance(argument, ast.Call) else None
                    self.assertNotIn(getattr(called, "id", None), ("zip", "enumerate", "reversed", "range"), name)

    def test_exponents_are_literal(self):
        for name, node in self.nodes():
            if isinstance(node, (ast.BinOp, ast.AugAssign)) and isinstance(node.op, ast.Pow):
                exponent = node.right if isinstance(node, ast.BinOp) else node.value
                self.assertIsInstance(exponent, ast.Constant, (name, node.lineno))

    def test_imports_are_of_the_package(self):
        for name, tree in self.trees():
            for node in tree.body:
                if isinstance(node, ast.ImportFrom):
                    self.assertEqual(node.level, 0, name)
                    self.assertTrue(node.module.startswith("tensloft."), (name, node.module))
                    self.assertNotIn("*", [one.name for one in node.names], name)

    def test_names(self):
        for name, node in self.nodes():
            for bound in names_bound(node):
                if not (bound.startswith("__") and bound.endswith("__")):
                    self.assertFalse(bound.startswith("_"), (name, bound))
                    self.assertFalse(hasattr(builtins, bound), (name, bound))
            if isinstance(node, ast.Name) and hasattr(builtins, node.id):
                self.assertIn(node.id, ALLOWED_BUILTINS, name)

    def test_names_of_classes_and_imports_are_not_bound_again(self):
        for name, tree in self.trees():
            taken = [node.name for node in tree.body if isinstance(node, ast.ClassDef)]
            for node in tree.body:
                if isinstance(node, ast.ImportFrom):
                    taken += [one.asname or one.name for one in node.names]
            bound = [word for node in ast.walk(tree) for word in names_bound(node)]
            for word in taken:
                self.assertLessEqual(bound.count(word), 1, (name, word))

    def test_imports_are_used_and_of_the_very_file(self):
        trees = dict(self.trees())
        for name, tree in trees.items():
            read = {node.id for node in ast.walk(tree) if isinstance(node, ast.Name)}
            for node in tree.body:
                if isinstance(node, ast.ImportFrom):
                    defined = [word for inner in trees[node.module.split(".")[1] + ".py"].body for word in names_bound(inner)]
                    for inner in trees[node.module.split(".")[1] + ".py"].body:
                        if isinstance(inner, ast.Assign):
                            defined += names_bound(inner.targets[0])
                    for one in node.names:
                        self.assertIn(one.name, defined, (name, one.name))
                        self.assertIn(one.name, read, (name, one.name))

    def test_no_two_files_import_from_each_other(self):
        imports = {}
        for name, tree in self.trees():
            imports[name] = {node.module.split(".")[1] + ".py" for node in tree.body if isinstance(node, ast.ImportFrom)}
        while imports:
            free = [name for name in imports if not imports[name] & set(imports)]
            self.assertNotEqual(free, [], imports)
            for name in free:
                del imports[name]

    def test_no_name_is_a_method_and_an_attribute(self):
        methods, attributes = set(), set()
        for name, node in self.nodes():
            if isinstance(node, ast.ClassDef):
                methods |= {inner.name for inner in node.body if isinstance(inner, ast.FunctionDef)}
            if isinstance(node, ast.Attribute) and isinstance(node.ctx, ast.Store):
                attributes.add(node.attr)
        self.assertEqual(methods & attributes, set())

    def test_is_stands_beside_none_alone(self):
        for name, node in self.nodes():
            if isinstance(node, ast.Compare):
                for sign, other in zip(node.ops, node.comparators):
                    if isinstance(sign, (ast.Is, ast.IsNot)):
                        self.assertTrue(isinstance(other, ast.Constant) and other.value in (None, True, False), name)


if __name__ == "__main__":
    unittest.main()

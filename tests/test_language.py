"""The rules of the Python subset that a program can easily check, for each file of the package."""

import ast
import builtins
import pathlib
import re
import unittest

PACKAGE = pathlib.Path(__file__).resolve().parent.parent / "firstanswers"
FILES = sorted(PACKAGE.glob("*.py"))
BUILTINS = set(
    "len range enumerate zip min max sum abs sorted reversed int str bool bytes list tuple dict set isinstance ord repr any "
    "all divmod map iter next Exception ValueError TypeError KeyError IndexError LookupError ZeroDivisionError "
    "ArithmeticError OverflowError RuntimeError NotImplementedError NotImplemented property staticmethod classmethod "
    "super".split())
# Where examples were run before, there is also an underscore among them.
PYTHON_NAMES = set(dir(builtins)) - {"_"}
LIBRARY = {
    "heapq": {"heappush", "heappop", "heapify", "heapreplace", "heappushpop"},
    "math": {"gcd", "lcm", "isqrt", "comb", "perm", "factorial"},
    "itertools": {"product", "combinations", "permutations"},
}
DOUBLE = set(
    "__init__ __eq__ __repr__ __str__ __len__ __enter__ __exit__ __call__ __iter__ __lt__ __le__ __gt__ __ge__ __ne__ "
    "__add__ __sub__ __mul__ __floordiv__ __mod__ __pow__ __neg__ __contains__ __getitem__ __setitem__ __bool__".split())
METHODS = set(
    "append clear copy count endswith extend find get index insert isalnum isalpha isdigit islower isspace isupper items join "
    "keys ljust lower lstrip partition pop remove replace reverse rfind rjust rpartition rsplit rstrip setdefault split "
    "splitlines startswith strip update upper values zfill bit_length removeprefix removesuffix add discard sort".split())
NEVER = set("register mro elements open input law version_info with_traceback add_note".split())
WORDS = set(
    "type typing typing_extensions enum Enum IntEnum StrEnum Flag IntFlag Generic Protocol ABC ABCMeta namedtuple NamedTuple "
    "TypedDict TYPE_CHECKING abstractmethod".split())
STATEMENTS = (
    ast.Assign, ast.AugAssign, ast.AnnAssign, ast.If, ast.While, ast.For, ast.Return, ast.Break, ast.Continue, ast.Pass,
    ast.Raise, ast.Assert, ast.Delete, ast.Nonlocal, ast.Match, ast.With, ast.Try, ast.Expr, ast.FunctionDef, ast.ClassDef,
    ast.ImportFrom)
FOLDING = ("any", "all", "min", "max", "sum", "sorted")
MODIFYING = set("append clear extend insert pop remove reverse setdefault update add discard sort".split())


def nodes(tree, kind):
    return [node for node in ast.walk(tree) if isinstance(node, kind)]


def is_docstring(statement):
    return isinstance(statement, ast.Expr) and isinstance(statement.value, ast.Constant) \
        and isinstance(statement.value.value, str)


class LanguageTests(unittest.TestCase):
    def each(self):
        self.assertGreater(len(FILES), 4)
        for path in FILES:
            text = path.read_text()
            yield path, text, ast.parse(text)

    def test_files(self):
        for path in PACKAGE.iterdir():
            if path.name != "__pycache__":
                self.assertRegex(path.name, r"^[a-z0-9_]+\.py$")
        self.assertIn("__init__.py", [path.name for path in FILES])

    def test_size_and_characters(self):
        for _, text, tree in self.each():
            self.assertTrue(all(letter == "\n" or " " <= letter <= "~" for letter in text))
            self.assertLessEqual(len(text.splitlines()), 399)
            self.assertLessEqual(max(map(len, text.splitlines())), 120)
            for function in nodes(tree, ast.FunctionDef):
                self.assertLessEqual(function.end_lineno - function.lineno + 1, 40, function.name)

    def test_imports(self):
        made = {}
        for path, _, tree in self.each():
            made[f"firstanswers.{path.stem}"] = {
                node.name for node in tree.body if isinstance(node, (ast.FunctionDef, ast.ClassDef))
            } | {target.id for node in tree.body if isinstance(node, ast.Assign) for target in node.targets}
        for _, _, tree in self.each():
            self.assertEqual([], nodes(tree, ast.Import))
            for node in nodes(tree, ast.ImportFrom):
                self.assertEqual(0, node.level)
                for name in node.names:
                    self.assertIsNone(name.asname)
                    self.assertIn(name.name, LIBRARY.get(node.module, set()) | made.get(node.module, set()))

    def test_no_circles(self):
        needs = {}
        for path, _, tree in self.each():
            needs[f"firstanswers.{path.stem}"] = {node.module for node in nodes(tree, ast.ImportFrom)} - set(LIBRARY)
        while needs:
            free = [name for name in needs if not needs[name] & set(needs)]
            self.assertTrue(free, needs)
            for name in free:
                del needs[name]

    def test_module_level(self):
        for _, _, tree in self.each():
            names = []
            for node in tree.body:
                self.assertTrue(is_docstring(node) or isinstance(
                    node, (ast.ImportFrom, ast.FunctionDef, ast.ClassDef, ast.Assign)))
                if isinstance(node, ast.Assign):
                    self.assertEqual(1, len(node.targets))
                    names.append(node.targets[0].id)
                    self.assertEqual([], nodes(node, (ast.Call, ast.ListComp, ast.DictComp, ast.SetComp)))
                elif isinstance(node, ast.ImportFrom):
                    names += [name.name for name in node.names]
                elif not is_docstring(node):
                    names.append(node.name)
            self.assertEqual(len(names), len(set(names)))
            local = {name.id for name in nodes(tree, ast.Name) if isinstance(name.ctx, ast.Store)}
            local |= {name.arg for name in nodes(tree, ast.arg)}
            bound = {name for node in tree.body if not isinstance(node, ast.Assign) and not is_docstring(node)
                     for name in ([each.name for each in node.names] if isinstance(node, ast.ImportFrom) else [node.name])}
            self.assertEqual(set(), local & bound)

    def test_statements_and_operators(self):
        for _, _, tree in self.each():
            for node in nodes(tree, ast.stmt):
                self.assertIsInstance(node, STATEMENTS)
            for node in nodes(tree, ast.BinOp) + nodes(tree, ast.AugAssign):
                self.assertNotIsInstance(node.op, (ast.Div, ast.MatMult))
                if isinstance(node.op, ast.Pow):
                    self.assertIn(getattr(node.right, "value", None), range(65))
            for node in nodes(tree, ast.Compare):
                for sign, right in zip(node.ops, node.comparators):
                    if isinstance(sign, (ast.Is, ast.IsNot)):
                        self.assertIn(getattr(right, "value", 1), (None, True, False))
            for node in nodes(tree, ast.Constant):
                self.assertNotIsInstance(node.value, (float, complex, bytes))
                if isinstance(node.value, str):
                    self.assertNotIn("%", node.value)
            for node in nodes(tree, ast.Raise):
                self.assertIsInstance(node.exc, ast.Call)
            for node in nodes(tree, ast.Set):
                self.fail("a set literal")

    def test_names(self):
        for _, _, tree in self.each():
            defined = {node.name for node in tree.body if isinstance(node, (ast.FunctionDef, ast.ClassDef))}
            defined |= {name.name for node in nodes(tree, ast.ImportFrom) for name in node.names}
            stored = {node.id for node in nodes(tree, ast.Name) if isinstance(node.ctx, ast.Store)}
            stored |= {node.arg for node in nodes(tree, ast.arg)}
            for name in stored | defined:
                self.assertNotIn(name, PYTHON_NAMES)
                self.assertRegex(name, r"^(_|_?[A-Za-z][A-Za-z0-9_]*)$")
                self.assertNotIn(name, NEVER)
            for node in nodes(tree, ast.Name):
                self.assertIn(node.id, stored | defined | BUILTINS)
            for node in nodes(tree, ast.Attribute):
                self.assertNotIn(node.attr, NEVER)

    def test_words(self):
        for _, text, tree in self.each():
            self.assertFalse(any(word in text for word in ("dataclass", "overload", "contextmanager", "_wall", "(type)", "Meta")))
            names = {node.id for node in nodes(tree, ast.Name)} | {node.attr for node in nodes(tree, ast.Attribute)}
            for node in nodes(tree, ast.Constant):
                if isinstance(node.value, str):
                    names |= set(re.findall(r"\w+", node.value))
            docstrings = [statement.value.value for node in nodes(tree, (ast.Module, ast.ClassDef, ast.FunctionDef))
                          for statement in node.body[:1] if is_docstring(statement)]
            self.assertEqual(set(), (names - set(re.findall(r"\w+", " ".join(docstrings)))) & WORDS)

    def test_methods_that_are_called(self):
        own = set()
        for _, _, tree in self.each():
            own |= {node.name for node in nodes(tree, ast.FunctionDef)}
            for node in nodes(tree, ast.FunctionDef):
                if node.name.startswith("__"):
                    self.assertIn(node.name, DOUBLE)
                for decorator in node.decorator_list:
                    self.assertIn(getattr(decorator, "id", "setter"), ("property", "staticmethod", "classmethod", "setter"))
                self.assertEqual([], [default for default in node.args.defaults if not isinstance(default, ast.Constant)])
        for _, _, tree in self.each():
            for node in nodes(tree, ast.Call):
                if isinstance(node.func, ast.Attribute):
                    self.assertIn(node.func.attr, own | METHODS)

    def test_lists_where_lists_are_asked_for(self):
        for _, _, tree in self.each():
            for node in nodes(tree, ast.Call):
                if isinstance(node.func, ast.Name) and node.func.id in FOLDING:
                    self.assertFalse(any(isinstance(value, ast.GeneratorExp) for value in node.args))
                if isinstance(node.func, ast.Name) and node.func.id == "len":
                    self.assertNotIsInstance(node.args[0], ast.Call)

    def test_properties_and_operators_change_nothing(self):
        for _, _, tree in self.each():
            for function in nodes(tree, ast.FunctionDef):
                decorators = [getattr(decorator, "id", "") for decorator in function.decorator_list]
                if "property" in decorators or (function.name.startswith("__") and function.name != "__init__"):
                    for node in nodes(function, (ast.Attribute, ast.Subscript)):
                        self.assertIsInstance(node.ctx, ast.Load)
                    for node in nodes(function, ast.Call):
                        self.assertNotIn(getattr(node.func, "attr", ""), MODIFYING)

    def test_items_come_with_iteration(self):
        for _, _, tree in self.each():
            for made in nodes(tree, ast.ClassDef):
                names = [node.name for node in made.body if isinstance(node, ast.FunctionDef)]
                self.assertEqual("__getitem__" in names, "__iter__" in names)

    def test_caught_errors(self):
        for _, _, tree in self.each():
            for handler in nodes(tree, ast.ExceptHandler):
                self.assertIn(getattr(handler.type, "id", ""), ("KeyError", "ZeroDivisionError", "NoQuotient", "InvalidText"))

    def test_finally_only_assigns(self):
        allowed = (ast.Assign, ast.If, ast.Pass, ast.Tuple, ast.Attribute, ast.Name, ast.Compare, ast.Is, ast.IsNot, ast.Constant,
                   ast.Load, ast.Store)
        for _, _, tree in self.each():
            for attempt in nodes(tree, ast.Try):
                for statement in attempt.finalbody:
                    for node in ast.walk(statement):
                        self.assertIsInstance(node, allowed)

    def test_names_of_properties_methods_and_attributes(self):
        properties, methods, attributes = set(), set(), set()
        for _, _, tree in self.each():
            for made in nodes(tree, ast.ClassDef):
                for node in made.body:
                    if isinstance(node, ast.FunctionDef):
                        is_property = "property" in [getattr(decorator, "id", "") for decorator in node.decorator_list]
                        (properties if is_property else methods).add(node.name)
            attributes |= {node.attr for node in nodes(tree, ast.Attribute) if isinstance(node.ctx, ast.Store)}
        self.assertEqual([set(), set(), set()], [properties & methods, properties & attributes, methods & attributes])
        self.assertEqual(set(), (properties | attributes) & (METHODS - {"count", "index", "find", "get", "copy", "add"}))

    def test_generators_are_iterated_at_once(self):
        generators, functions = [], []
        for _, _, tree in self.each():
            for node in nodes(tree, ast.FunctionDef):
                (generators if nodes(node, (ast.Yield, ast.YieldFrom)) else functions).append(node.name)
        self.assertEqual(len(generators), len(set(generators)))
        self.assertEqual(set(), set(generators) & set(functions))
        for _, _, tree in self.each():
            heads = [node.iter for node in nodes(tree, (ast.For, ast.comprehension))]
            heads += [node.value for node in nodes(tree, ast.YieldFrom)]
            heads += [value for node in nodes(tree, ast.Call) for value in node.args
                      if getattr(node.func, "id", "") in ("list", "tuple", "dict", "enumerate", "zip")]
            for node in nodes(tree, ast.Call):
                if getattr(node.func, "attr", getattr(node.func, "id", "")) in generators:
                    self.assertIn(node, heads)


if __name__ == "__main__":
    unittest.main()

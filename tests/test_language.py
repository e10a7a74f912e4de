"""Rules of LANGUAGE.md that can be seen in the files of the package, by the number of the rule."""

import ast
import os
import re
import unittest
import warnings

FOLDER = os.path.join(os.path.dirname(os.path.dirname(os.path.abspath(__file__))), "ringreads")
STATEMENTS = (
    ast.Assign, ast.AugAssign, ast.If, ast.While, ast.For, ast.Return, ast.Break, ast.Continue, ast.Pass, ast.Raise,
    ast.Assert, ast.Delete, ast.Try, ast.Expr, ast.FunctionDef, ast.ClassDef, ast.ImportFrom,
)
BARRED = (
    ast.Starred, ast.GeneratorExp, ast.Yield, ast.YieldFrom, ast.Await, ast.NamedExpr, ast.Set, ast.Div, ast.MatMult,
    ast.AnnAssign, ast.Global, ast.Nonlocal, ast.With, ast.Match, ast.Lambda,
)
BUILTINS = (
    "len range enumerate zip min max sum abs sorted reversed int str bool list tuple dict set isinstance ord repr any "
    "all divmod type super ValueError KeyError IndexError LookupError"
).split()
METHODS = (
    "append clear copy count endswith extend find get index insert isalnum isalpha isdigit islower isspace isupper "
    "items join keys ljust lower lstrip partition pop remove replace reverse rfind rjust rpartition rsplit rstrip "
    "setdefault split splitlines startswith strip update upper values zfill bit_length isascii __init__"
).split()
WORDS = (
    "typing typing_extensions enum Enum IntEnum StrEnum Flag IntFlag Generic Protocol ABC ABCMeta namedtuple "
    "NamedTuple TypedDict TYPE_CHECKING abstractmethod dataclass overload contextmanager register mro elements open "
    "input law version_info"
).split()
LIBRARY = {
    "math": "gcd lcm isqrt comb perm factorial".split(), "itertools": "product combinations permutations".split(),
}
DOUBLE = ("__init__", "__eq__", "__len__")
KINDS = r"\btype\(\w+\) (?:[!=]= \w+|is type\(\w+\))"
PLAIN = (ast.Constant, ast.Tuple, ast.List, ast.Dict, ast.BinOp, ast.UnaryOp)


def paths():
    """The files of the package, in folders too."""
    for folder, folders, files in os.walk(FOLDER):
        folders[:] = [name for name in folders if name != "__pycache__"]
        for name in files:
            yield os.path.join(folder, name)


def texts():
    """The files of the package, each with its text."""
    found = {}
    for path in paths():
        with open(path, encoding="utf-8", newline="") as file:
            found[os.path.relpath(path, os.path.dirname(FOLDER))] = file.read()
    return found


def bound(tree):
    """The names that a file binds at module level without importing them."""
    names = [node.name for node in tree.body if isinstance(node, (ast.FunctionDef, ast.ClassDef))]
    return names + [node.targets[0].id for node in tree.body if isinstance(node, ast.Assign)]


def docstrings(tree):
    """The nodes of the docstrings of a file."""
    bodies = [node.body for node in ast.walk(tree) if isinstance(node, (ast.Module, ast.FunctionDef, ast.ClassDef))]
    return [body[0].value for body in bodies if body and isinstance(body[0], ast.Expr)]


class LanguageTest(unittest.TestCase):

    def setUp(self):
        self.texts = texts()
        self.trees = {path: ast.parse(text) for path, text in self.texts.items()}

    def nodes(self, *kinds):
        for path, tree in self.trees.items():
            for node in ast.walk(tree):
                if isinstance(node, kinds):
                    yield f"{path}:{getattr(node, 'lineno', 0)}", node

    def methods(self):
        bodies = [top.body for _, top in self.nodes(ast.ClassDef)]
        return [node for body in bodies for node in body if isinstance(node, ast.FunctionDef)]

    def test_l1_l14_files(self):
        self.assertIn("ringreads/__init__.py", self.texts)
        for path in self.texts:
            self.assertRegex(path, r"^ringreads/[a-z0-9_]+\.py$")

    def test_l10_l14_lines_and_signs(self):
        for path, text in self.texts.items():
            lines = text.split("\n")
            self.assertLessEqual(len(lines), 400, path)
            for line in lines:
                self.assertLessEqual(len(line), 120, path)
                self.assertRegex(line, r"^[ -~]*$", path)

    def test_l10_functions(self):
        for place, node in self.nodes(ast.FunctionDef):
            self.assertLessEqual(node.end_lineno - node.lineno + 1, 40, place)

    def test_l27_no_warnings(self):
        for path, text in self.texts.items():
            with warnings.catch_warnings():
                warnings.simplefilter("error")
                compile(text, path, "exec")

    def test_l2_l16_imports(self):
        uses = {}
        for path, tree in self.trees.items():
            own = path[:-3].replace("/", ".")
            imports = [node for node in ast.walk(tree) if isinstance(node, (ast.Import, ast.ImportFrom))]
            self.assertEqual(imports, [node for node in tree.body[1:] if node in imports], path)
            uses[own] = []
            for node in imports:
                self.assertIsInstance(node, ast.ImportFrom, path)
                self.assertEqual(node.level, 0, path)
                if node.module in LIBRARY:
                    self.check_library(path, tree, node)
                    continue
                other = node.module.replace(".", "/") + ".py"
                self.assertIn(other, self.trees, path)
                for alias in node.names:
                    self.assertIsNone(alias.asname, path)
                    self.assertIn(alias.name, bound(self.trees[other]), path)
                uses[own].append(node.module)
        while uses:
            free = [name for name in uses if not [other for other in uses[name] if other in uses]]
            self.assertTrue(free, f"these import from each other: {uses}")
            for name in free:
                del uses[name]

    def check_library(self, path, tree, node):
        for alias in node.names:
            self.assertIsNone(alias.asname, path)
            self.assertIn(alias.name, LIBRARY[node.module], path)
            named = [use for use in ast.walk(tree) if isinstance(use, ast.Name) and use.id == alias.name]
            calls = [use for use in ast.walk(tree) if isinstance(use, ast.Call) and use.func in named]
            self.assertEqual(len(named), len(calls), path)
            self.assertFalse([use for use in calls if use.keywords], path)
            if node.module == "itertools":
                loops = [loop.iter for loop in ast.walk(tree) if isinstance(loop, (ast.For, ast.comprehension))]
                self.assertEqual([use for use in calls if use not in loops], [], path)

    def test_l3_module_level(self):
        for path, tree in self.trees.items():
            self.assertIsInstance(ast.get_docstring(tree), str, path)
            for node in tree.body[1:]:
                self.assertIsInstance(node, (ast.ImportFrom, ast.FunctionDef, ast.ClassDef, ast.Assign), path)
                if isinstance(node, ast.Assign):
                    self.assertEqual([len(node.targets), type(node.targets[0])], [1, ast.Name], path)
                    self.assertIsInstance(node.value, PLAIN, path)

    def test_l6_l7_statements_and_expressions(self):
        for place, node in self.nodes(ast.stmt):
            self.assertIsInstance(node, STATEMENTS, place)
        for place, node in self.nodes(*BARRED):
            self.fail(f"{place}: {type(node).__name__}")

    def test_l4_l5_decorators_and_default_values(self):
        methods = self.methods()
        for place, node in self.nodes(ast.FunctionDef, ast.ClassDef):
            decorators = [ast.unparse(decorator) for decorator in node.decorator_list]
            self.assertIn(decorators, [[], ["property"]] if node in methods else [[]], place)
            if decorators:
                self.assertEqual(ast.unparse(node.args), "self", place)
        for place, node in self.nodes(ast.arguments):
            self.assertEqual(node.defaults + node.kw_defaults + node.kwonlyargs + node.posonlyargs, [], place)

    def test_l7_l27_constants(self):
        for path, tree in self.trees.items():
            comments = docstrings(tree)
            for node in ast.walk(tree):
                if isinstance(node, ast.Constant):
                    self.assertNotIsInstance(node.value, (float, complex, bytes), path)
                    if isinstance(node.value, str) and node not in comments:
                        self.assertNotRegex(node.value, r"%|__|\._$", path)

    def test_l8_builtins(self):
        for path, tree in self.trees.items():
            known = set(bound(tree)) | set(BUILTINS) | {
                decorator.id for node in ast.walk(tree) if isinstance(node, ast.FunctionDef)
                for decorator in node.decorator_list}
            for node in ast.walk(tree):
                if isinstance(node, ast.ImportFrom):
                    known.update(alias.name for alias in node.names)
                if isinstance(node, ast.arg):
                    known.add(node.arg)
                if isinstance(node, ast.Name) and isinstance(node.ctx, ast.Store):
                    known.add(node.id)
            for node in ast.walk(tree):
                if isinstance(node, ast.Name):
                    self.assertIn(node.id, known, path)

    def test_l12_l15_l17_names(self):
        builtins = set(dir(__builtins__) if not isinstance(__builtins__, dict) else __builtins__)
        for path, tree in self.trees.items():
            top = [name for name in bound(tree)]
            imports = [alias.name for node in tree.body if isinstance(node, ast.ImportFrom) for alias in node.names]
            self.assertEqual(len(top + imports), len(set(top + imports)), path)
            local = [node.arg for node in ast.walk(tree) if isinstance(node, ast.arg)]
            local += [node.id for function in tree.body if isinstance(function, ast.FunctionDef)
                      for node in ast.walk(function) if isinstance(node, ast.Name) and isinstance(node.ctx, ast.Store)]
            for name in local:
                self.assertNotIn(name, top + imports, path)
            for name in top + local:
                self.assertNotIn(name, builtins, path)
                self.assertRegex(name, r"^(_|_?[A-Za-z][A-Za-z0-9_]*)$", path)

    def test_l17_words(self):
        for path, text in self.texts.items():
            code = ast.unparse(self.without_docstrings(text))
            for word in re.findall(r"\w+", code):
                self.assertNotIn(word, WORDS, path)
            self.assertNotRegex(re.sub(KINDS, "", code), r"\btype\b", path)

    def without_docstrings(self, text):
        tree = ast.parse(text)
        for node in docstrings(tree):
            node.value = ""
        return tree

    def test_l20_is(self):
        for place, node in self.nodes(ast.Compare):
            for sign, right in zip(node.ops, node.comparators):
                if isinstance(sign, (ast.Is, ast.IsNot)) and not re.fullmatch(KINDS, ast.unparse(node)):
                    self.assertIsInstance(right, ast.Constant, place)

    def test_l21_annotations(self):
        for place, node in self.nodes(ast.FunctionDef):
            self.assertIsNone(node.returns, place)
        for place, node in self.nodes(ast.arg):
            self.assertIsNone(node.annotation, place)

    def test_l19_l25_calls(self):
        classes = [node.name for _, node in self.nodes(ast.ClassDef)]
        own = {node.name for node in self.methods()}
        for place, node in self.nodes(ast.Call):
            if isinstance(node.func, ast.Attribute):
                self.assertIn(node.func.attr, {*METHODS, *own}, place)
            else:
                self.assertIsInstance(node.func, ast.Name, place)
        for place, node in self.nodes(ast.Raise):
            self.assertIsInstance(node.exc, ast.Call, place)
            self.assertIn(node.exc.func.id, classes, place)

    def test_l5_l18_l26_l28_classes(self):
        methods, properties, attributes = set(), set(), set()
        for place, top in self.nodes(ast.ClassDef):
            functions = [node for node in top.body if isinstance(node, ast.FunctionDef)]
            self.assertEqual(len(functions), len({node.name for node in functions}), place)
            # Only the docstring stands beside the methods.
            self.assertLessEqual(len(top.body) - len(functions), 1, place)
            for node in functions:
                (properties if node.decorator_list else methods).add(node.name)
                if node.name.startswith("__"):
                    self.assertIn(node.name, DOUBLE, place)
                if node.name == "__len__":
                    self.assertRegex(ast.unparse(node.body[-1]), r"^return len\(.*\)$", place)
        for place, node in self.nodes(ast.Attribute):
            if isinstance(node.ctx, ast.Store):
                self.assertIsInstance(node.value, ast.Name, place)
                attributes.add(node.attr)
        self.assertFalse(methods & properties | methods & attributes | properties & attributes)
        for name in (methods | properties | attributes) - {"add", *DOUBLE}:
            self.assertRegex(name, r"^(?!_record[0-9_]*$)_?[a-z][a-z_]*$")
            if name not in attributes or name not in ("index", "count"):
                self.assertNotIn(name, METHODS)

    def test_l24_sets(self):
        for path, text in self.texts.items():
            self.assertEqual(len(re.findall(r"\bset\(", text)), len(re.findall(r"\b(sorted|len|in) ?\(?set\(", text)),
                             path)
        for place, node in self.nodes(ast.SetComp):
            self.fail(place)

    def test_l27_exponents(self):
        for place, node in self.nodes(ast.BinOp):
            if isinstance(node.op, ast.Pow):
                self.assertIsInstance(node.right, ast.Constant, place)
                self.assertIn(node.right.value, range(65), place)


if __name__ == "__main__":
    unittest.main()

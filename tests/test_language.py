"""The form of the package: rules of the language subset that can be read off the code."""

import ast
import builtins
import pathlib
import re
import unittest

PACKAGE = pathlib.Path(__file__).resolve().parent.parent / "counthall"
FILES = sorted(PACKAGE.glob("*.py"))

BUILTINS = set(
    "len range enumerate zip min max sum abs sorted reversed int str bool list tuple dict set isinstance ord repr"
    " any all divmod super iter ValueError KeyError ZeroDivisionError".split()
)
VALUE_METHODS = set(
    "append clear copy count endswith extend find get index insert isalnum isalpha isdigit islower isspace isupper"
    " items join keys ljust lower lstrip partition pop remove replace reverse rfind rjust rpartition rsplit rstrip"
    " setdefault split splitlines startswith strip update upper values zfill bit_length add discard isascii".split()
)
LIBRARY = {("math", "gcd")}
DOUBLE = set(
    "__init__ __eq__ __repr__ __str__ __len__ __iter__ __contains__ __bool__ __and__ __or__".split()
)
BARRED = re.compile(r"\b(typing|enum|Enum|Generic|Protocol|ABC|namedtuple|type)\b|dataclass|overload|contextmanager")
KEYWORDS = {
    "sorted": {"key", "reverse"}, "min": {"key", "default"}, "max": {"key", "default"},
    "sum": {"start"}, "enumerate": {"start"}, "zip": {"strict"},
}
LAZY = {"range", "zip", "enumerate", "reversed", "map", "iter"}
PLAIN = (
    ast.FunctionDef, ast.ClassDef, ast.ImportFrom, ast.Assign,
)
FORBIDDEN = (
    ast.Import, ast.AsyncFunctionDef, ast.AsyncFor, ast.AsyncWith, ast.Await, ast.Global, ast.Div, ast.MatMult,
)


def trees():
    return [(path, ast.parse(path.read_text(encoding="utf-8"))) for path in FILES]


def is_docstring(node):
    return isinstance(node, ast.Expr) and isinstance(node.value, ast.Constant) and isinstance(node.value.value, str)


def parents_of(tree):
    return {child: node for node in ast.walk(tree) for child in ast.iter_child_nodes(node)}


class LanguageTest(unittest.TestCase):
    def test_files(self):
        self.assertTrue((PACKAGE / "__init__.py").exists())
        inside = {path.name for path in PACKAGE.iterdir() if path.name != "__pycache__"}
        self.assertEqual(inside, {path.name for path in FILES})
        for path in FILES:
            self.assertRegex(path.name, r"^[a-z_][a-z0-9_]*\.py$")
            text = path.read_bytes()
            self.assertTrue(all(byte == 10 or 32 <= byte <= 126 for byte in text), path)

    def test_sizes(self):
        for path, tree in trees():
            lines = path.read_text().splitlines()
            self.assertLessEqual(len(lines), 399, path)
            self.assertLessEqual(max(map(len, lines)), 120, path)
            for node in ast.walk(tree):
                if isinstance(node, ast.FunctionDef):
                    self.assertLessEqual(node.end_lineno - node.lineno + 1, 40, f"{path}: {node.name}")
                    self.assertEqual(node.decorator_list, [])

    def test_module_level(self):
        for path, tree in trees():
            names = []
            for node in tree.body:
                if is_docstring(node):
                    continue
                self.assertIsInstance(node, PLAIN, f"{path}: {node.lineno}")
                if isinstance(node, ast.ImportFrom):
                    names += [alias.name for alias in node.names]
                    self.assertTrue(all(alias.asname is None for alias in node.names))
                elif isinstance(node, ast.Assign):
                    parts = node.value.elts if isinstance(node.value, ast.Tuple) else [node.value]
                    self.assertTrue(all(isinstance(part, ast.Constant) for part in parts), f"{path}: {node.lineno}")
                    names += [target.id for target in node.targets]
                else:
                    names.append(node.name)
            self.assertEqual(len(set(names)), len(names), path)

    def test_imports(self):
        uses = {}
        defined = {}
        for path, tree in trees():
            imports = [node for node in ast.walk(tree) if isinstance(node, ast.ImportFrom)]
            self.assertTrue(all(node.level == 0 for node in imports), path)
            taken = {(node.module, alias.name) for node in imports for alias in node.names} - LIBRARY
            self.assertTrue(all(module.startswith("counthall.") for module, _ in taken), path)
            uses[f"counthall.{path.stem}"] = sorted(taken)
            named = [node.name for node in tree.body if isinstance(node, (ast.FunctionDef, ast.ClassDef))]
            named += [node.targets[0].id for node in tree.body if isinstance(node, ast.Assign)]
            defined[f"counthall.{path.stem}"] = named
        for used in uses.values():
            for module, name in used:
                self.assertIn(name, defined[module])
        done = set()
        while len(done) < len(uses):
            free = [file for file in uses if file not in done and all(module in done for module, _ in uses[file])]
            self.assertTrue(free, "files import each other in a circle")
            done.update(free)

    def test_statements_and_values(self):
        for path, tree in trees():
            for node in ast.walk(tree):
                place = f"{path}: {getattr(node, 'lineno', '')}"
                self.assertNotIsInstance(node, FORBIDDEN, place)
                if isinstance(node, ast.Constant):
                    self.assertNotIsInstance(node.value, (float, complex), place)
                    if isinstance(node.value, str):
                        self.assertNotIn("%", node.value, place)
                if isinstance(node, ast.Compare) and any(isinstance(op, (ast.Is, ast.IsNot)) for op in node.ops):
                    self.assertTrue(all(isinstance(side, ast.Constant) for side in node.comparators), place)
                if isinstance(node, ast.Assign) and isinstance(node.value, ast.Call):
                    if isinstance(node.value.func, ast.Name):
                        self.assertNotIn(node.value.func.id, LAZY | {"set"}, place)

    def test_words(self):
        for path, tree in trees():
            words = [node.id for node in ast.walk(tree) if isinstance(node, ast.Name)]
            words += [node.attr for node in ast.walk(tree) if isinstance(node, ast.Attribute)]
            words += [node.arg for node in ast.walk(tree) if isinstance(node, (ast.arg, ast.keyword)) and node.arg]
            for word in words:
                self.assertIsNone(BARRED.search(word), f"{path}: {word}")
                self.assertNotIn(word, {"mro", "elements", "open", "input", "law", "register"}, path)

    def test_names(self):
        for path, tree in trees():
            taken = {alias.name for node in tree.body if isinstance(node, ast.ImportFrom) for alias in node.names}
            taken |= {node.name for node in tree.body if isinstance(node, ast.ClassDef)}
            words = [node for node in ast.walk(tree) if isinstance(node, ast.Name)]
            bound = [node.id for node in words if isinstance(node.ctx, ast.Store)]
            bound += [node.arg for node in ast.walk(tree) if isinstance(node, ast.arg)]
            for name in bound:
                self.assertNotIn(name, taken, path)
                self.assertFalse(hasattr(builtins, name), f"{path}: {name}")
            read = {node.id for node in words if isinstance(node.ctx, ast.Load)}
            used = {name for name in read if hasattr(builtins, name)}
            self.assertLessEqual(used, BUILTINS, path)

    def test_methods_and_calls(self):
        own = {
            node.name for _, tree in trees() for found in ast.walk(tree) if isinstance(found, ast.ClassDef)
            for node in found.body if isinstance(node, ast.FunctionDef)
        }
        self.assertLessEqual({name for name in own if name.startswith("__")}, DOUBLE)
        for path, tree in trees():
            for node in ast.walk(tree):
                if not isinstance(node, ast.Call):
                    continue
                place = f"{path}: {node.lineno}"
                if isinstance(node.func, ast.Attribute):
                    self.assertIn(node.func.attr, VALUE_METHODS | own, place)
                elif isinstance(node.func, ast.Name) and hasattr(builtins, node.func.id):
                    keywords = {keyword.arg for keyword in node.keywords}
                    self.assertLessEqual(keywords, KEYWORDS.get(node.func.id, set()), place)

    def test_stars_lambdas_and_generators(self):
        for path, tree in trees():
            places = [node.lineno for node in ast.walk(tree) if isinstance(node, ast.Lambda)]
            self.assertEqual(len(set(places)), len(places), f"{path}: two lambdas on one line")
            for node in ast.walk(tree):
                self.assertNotIsInstance(node, (ast.Yield, ast.YieldFrom, ast.NamedExpr), path)
                if isinstance(node, ast.Name) and node.id == "_":
                    self.assertIsInstance(node.ctx, ast.Store, f"{path}: {node.lineno}")
                if not isinstance(node, ast.Call):
                    continue
                for argument in node.args:
                    if isinstance(argument, ast.Starred):
                        self.assertIsInstance(argument.value, (ast.Name, ast.Attribute), f"{path}: {node.lineno}")
                    if isinstance(argument, ast.GeneratorExp):
                        self.assertIn(node.func.id, {"list", "tuple", "sum", "min", "max", "any", "all"})
                        self.assertFalse(node.keywords, f"{path}: {node.lineno}")

    def test_sets_are_not_kept(self):
        for path, tree in trees():
            parents = parents_of(tree)
            for node in ast.walk(tree):
                made = isinstance(node, (ast.Set, ast.SetComp))
                made = made or isinstance(node, ast.Call) and isinstance(node.func, ast.Name) and node.func.id == "set"
                if made:
                    above = parents[node]
                    at_once = isinstance(above, ast.Call) and above.func.id in ("sorted", "len") and not above.keywords
                    self.assertTrue(at_once or isinstance(above, ast.Compare), f"{path}: {node.lineno}")


if __name__ == "__main__":
    unittest.main()

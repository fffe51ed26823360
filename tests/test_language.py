"""What can be measured of the rules under which the package is written."""

import ast
import pathlib
import re
import unittest

ROOT = pathlib.Path(__file__).resolve().parent.parent / "termsonwires"
FILES = sorted(ROOT.glob("*.py"))
BUILTINS = {
    "len", "range", "enumerate", "zip", "min", "max", "sum", "abs", "sorted", "reversed", "int", "str", "bool", "list",
    "tuple", "dict", "set", "isinstance", "ord", "repr", "any", "all", "divmod", "super", "map", "Exception",
    "ValueError", "TypeError", "KeyError", "NotImplementedError", "NotImplemented", "iter", "property", "pow", "classmethod",
}
ALL_BUILTINS = set(dir(__builtins__) if not isinstance(__builtins__, dict) else __builtins__)
CHANGING = {"append", "extend", "insert", "pop", "remove", "clear", "update", "setdefault", "reverse", "add", "discard"}
LIBRARY = {"heapq": {"heappop", "heappush"}, "math": {"gcd"}}
BARRED_WORDS = {
    "typing", "typing_extensions", "enum", "Enum", "IntEnum", "StrEnum", "Flag", "IntFlag", "Generic", "Protocol",
    "ABC", "ABCMeta", "namedtuple", "NamedTuple", "TypedDict", "TYPE_CHECKING", "abstractmethod",
}
BARRED_NAMES = {"register", "mro", "elements", "open", "input", "law", "version_info", "with_traceback", "add_note"}
BARRED = BARRED_WORDS | BARRED_NAMES
METHODS = set(
    "append clear copy count endswith extend find get index insert isalnum isalpha isdigit islower isspace isupper items"
    " join keys ljust lower lstrip partition pop remove replace reverse rfind rjust rpartition rsplit rstrip setdefault"
    " split splitlines startswith strip update upper values zfill bit_length add discard".split())
NO_ATTRIBUTES = set(
    "items keys values pop update append clear extend insert remove reverse setdefault sort args encode decode hex"
    " fromhex format".split())


def own_names(trees):
    """The names of the package's functions, methods and attributes."""
    names = set()
    for tree in trees:
        for node in ast.walk(tree):
            if isinstance(node, (ast.FunctionDef, ast.ClassDef)):
                names.add(node.name)
            if isinstance(node, ast.Attribute) and isinstance(node.ctx, ast.Store):
                names.add(node.attr)
    return names


class LanguageTest(unittest.TestCase):
    @classmethod
    def setUpClass(cls):
        cls.sources = {path.name: path.read_text(encoding="utf-8") for path in FILES}
        cls.trees = {name: ast.parse(source) for name, source in cls.sources.items()}

    def test_sizes(self):
        for name, source in self.sources.items():
            rows = source.split("\n")
            self.assertLessEqual(len(rows), 399, name)
            self.assertLessEqual(max(len(row) for row in rows), 120, name)
            self.assertTrue(all(char == "\n" or " " <= char <= "~" for char in source), name)
            for node in ast.walk(self.trees[name]):
                if isinstance(node, ast.FunctionDef):
                    self.assertLessEqual(node.end_lineno - node.lineno + 1, 40, f"{name} {node.name}")

    def test_only_python_files(self):
        stray = [path.name for path in ROOT.iterdir() if path.suffix != ".py" and path.name != "__pycache__"]
        self.assertEqual(stray, [])
        self.assertLessEqual(len(FILES), 100)

    def test_imports(self):
        for name, tree in self.trees.items():
            top = [node for node in tree.body if isinstance(node, (ast.Import, ast.ImportFrom))]
            every = [node for node in ast.walk(tree) if isinstance(node, (ast.Import, ast.ImportFrom))]
            self.assertEqual(len(top), len(every), name)
            for node in every:
                self.assertIsInstance(node, ast.ImportFrom, name)
                if node.module in LIBRARY:
                    self.assertTrue({alias.name for alias in node.names} <= LIBRARY[node.module], name)
                    continue
                self.assertTrue(node.module.startswith("termsonwires."), f"{name} {node.module}")
                module = self.trees[node.module.split(".")[1] + ".py"]
                defined = {part.name for part in module.body if isinstance(part, (ast.FunctionDef, ast.ClassDef))}
                defined |= {target.id for part in module.body if isinstance(part, ast.Assign) for target in part.targets}
                for alias in node.names:
                    self.assertIsNone(alias.asname)
                    self.assertIn(alias.name, defined, name)

    def test_imports_are_used(self):
        for name, tree in self.trees.items():
            imported = [alias.name for node in tree.body if isinstance(node, ast.ImportFrom) for alias in node.names]
            self.assertEqual(len(imported), len(set(imported)), name)
            read = {node.id for node in ast.walk(tree) if isinstance(node, ast.Name)}
            self.assertEqual([word for word in imported if word not in read], [], name)

    def test_no_rings_of_imports(self):
        links = {
            name: {node.module.split(".")[1] + ".py" for node in tree.body
                   if isinstance(node, ast.ImportFrom) and node.module not in LIBRARY}
            for name, tree in self.trees.items()
        }
        left = set(links)
        while left:
            ready = {name for name in left if not links[name] & left}
            self.assertTrue(ready, left)
            left -= ready

    def test_names(self):
        for name, tree in self.trees.items():
            imported = {alias.name for node in tree.body if isinstance(node, ast.ImportFrom) for alias in node.names}
            classes = {node.name for node in tree.body if isinstance(node, ast.ClassDef)}
            for node in ast.walk(tree):
                if isinstance(node, ast.arg):
                    bound = [node.arg]
                elif isinstance(node, ast.Name) and isinstance(node.ctx, ast.Store):
                    bound = [node.id]
                else:
                    bound = []
                if isinstance(node, (ast.Attribute, ast.keyword)):
                    self.assertNotIn(node.attr if isinstance(node, ast.Attribute) else node.arg, BARRED_NAMES, name)
                for word in bound:
                    self.assertNotIn(word, ALL_BUILTINS, name)
                    self.assertNotIn(word, imported | classes, name)
                    self.assertNotIn(word, BARRED, name)
                if isinstance(node, (ast.FunctionDef, ast.ClassDef)) and not node.name.startswith("__"):
                    self.assertNotIn(node.name, ALL_BUILTINS | BARRED, name)
                    self.assertFalse(isinstance(node, ast.FunctionDef) and node.name in imported, node.name)

    def test_module_names_are_bound_once(self):
        for name, tree in self.trees.items():
            bound = []
            for node in tree.body:
                if isinstance(node, (ast.FunctionDef, ast.ClassDef)):
                    bound.append(node.name)
                elif isinstance(node, ast.Assign):
                    self.assertEqual(len(node.targets), 1)
                    bound.append(node.targets[0].id)
                elif isinstance(node, ast.ImportFrom):
                    bound.extend(alias.name for alias in node.names)
                else:
                    self.assertIsInstance(node.value, ast.Constant, name)
            self.assertEqual(len(bound), len(set(bound)), name)

    def test_builtins_and_methods(self):
        own = own_names(self.trees.values())
        for name, tree in self.trees.items():
            for node in ast.walk(tree):
                if isinstance(node, ast.Name) and node.id in ALL_BUILTINS:
                    self.assertIn(node.id, BUILTINS, f"{name} {node.lineno}")
                if isinstance(node, ast.Call) and isinstance(node.func, ast.Attribute):
                    if not node.func.attr.startswith("__"):
                        self.assertIn(node.func.attr, METHODS | own, f"{name} {node.lineno}")
                if isinstance(node, ast.Attribute) and isinstance(node.ctx, ast.Store):
                    self.assertNotIn(node.attr, NO_ATTRIBUTES, f"{name} {node.lineno}")

    def test_statements(self):
        barred = (ast.Global, ast.AsyncFunctionDef, ast.Div, ast.GeneratorExp, ast.Yield, ast.YieldFrom, ast.Match)
        for name, tree in self.trees.items():
            for node in ast.walk(tree):
                self.assertNotIsInstance(node, barred, f"{name} {getattr(node, 'lineno', '')}")
                if isinstance(node, ast.FunctionDef):
                    decorators = [part.id for part in node.decorator_list if isinstance(part, ast.Name)]
                    self.assertTrue(set(decorators) <= {"property", "staticmethod", "classmethod"}, name)
                if isinstance(node, ast.Compare) and any(isinstance(op, (ast.Is, ast.IsNot)) for op in node.ops):
                    self.assertTrue(all(isinstance(part, ast.Constant) for part in node.comparators), name)
                if isinstance(node, ast.Constant) and isinstance(node.value, float):
                    self.fail(name)

    def test_words(self):
        for name, source in self.sources.items():
            tree = self.trees[name]
            for node in ast.walk(tree):
                if isinstance(node, ast.Constant) and isinstance(node.value, str):
                    self.assertNotIn("%", node.value, name)
                    self.assertFalse(node.value.startswith("__") and node.value.endswith("__"), name)
            for word in re.findall(r"[A-Za-z_]+", "\n".join(row.split("#")[0] for row in source.split("\n"))):
                self.assertFalse(word.startswith("_wall") or word in ("dataclass", "overload", "contextmanager"), name)
                if word in BARRED_WORDS or word == "type":
                    self.assertRegex(source, r'"""[^"]*\b' + word, f"{name} {word}")

    def test_powers_have_literal_exponents(self):
        for name, tree in self.trees.items():
            for node in ast.walk(tree):
                if isinstance(node, ast.BinOp) and isinstance(node.op, ast.Pow):
                    self.assertIsInstance(node.right, ast.Constant, f"{name} {node.lineno}")

    def test_lambdas(self):
        for name, tree in self.trees.items():
            seen = [(node.lineno, tuple(arg.arg for arg in node.args.args)) for node in ast.walk(tree) if isinstance(node, ast.Lambda)]
            self.assertEqual(len(seen), len(set(seen)), name)

    def test_attributes_and_methods(self):
        methods, stored, read = {}, set(), []
        for name, tree in self.trees.items():
            for node in ast.walk(tree):
                if isinstance(node, ast.ClassDef):
                    own = {part.name for part in node.body if isinstance(part, ast.FunctionDef)}
                    attributes = {part.attr for part in ast.walk(node) if isinstance(part, ast.Attribute) and isinstance(part.ctx, ast.Store)}
                    self.assertEqual(own & attributes, set(), f"{name} {node.name}")
                    methods.update({word: name for word in own})
                if isinstance(node, ast.Attribute):
                    if isinstance(node.ctx, ast.Store):
                        stored.add(node.attr)
                    elif node.attr not in METHODS and not node.attr.startswith("__"):
                        read.append((node.attr, name))
        self.assertEqual([pair for pair in read if pair[0] not in stored and pair[0] not in methods], [])

    def test_no_loop_changes_what_it_goes_over(self):
        for name, tree in self.trees.items():
            for loop in ast.walk(tree):
                if isinstance(loop, ast.For):
                    over = ast.unparse(loop.iter)
                    for node in ast.walk(loop):
                        if isinstance(node, ast.Call) and isinstance(node.func, ast.Attribute) and node.func.attr in CHANGING:
                            self.assertNotEqual(ast.unparse(node.func.value), over, f"{name} {loop.lineno}")

    def test_keys_of_sorting(self):
        for name, tree in self.trees.items():
            for node in ast.walk(tree):
                if isinstance(node, ast.Call) and isinstance(node.func, ast.Name) and node.func.id in BUILTINS:
                    allowed = {"sorted": {"key", "reverse"}, "min": {"key", "default"}, "max": {"key", "default"}, "sum": {"start"}}
                    words = {keyword.arg for keyword in node.keywords}
                    self.assertTrue(words <= allowed.get(node.func.id, set()), f"{name} {node.lineno}")

    def test_views_are_iterated_at_once(self):
        for name, tree in self.trees.items():
            around = {child: node for node in ast.walk(tree) for child in ast.iter_child_nodes(node)}
            for node in ast.walk(tree):
                if not isinstance(node, ast.Call):
                    continue
                view = isinstance(node.func, ast.Attribute) and node.func.attr in ("items", "keys", "values")
                if view or isinstance(node.func, ast.Name) and node.func.id in ("zip", "enumerate", "reversed", "range"):
                    outer = around[node]
                    fits = isinstance(outer, (ast.For, ast.comprehension)) or isinstance(outer, ast.Call) and isinstance(
                        outer.func, ast.Name) and outer.func.id in ("list", "tuple", "dict", "sorted", "sum", "enumerate", "zip", "min", "max")
                    self.assertTrue(fits, f"{name} {node.lineno}")

    def test_sets_stay_local(self):
        for name, tree in self.trees.items():
            for node in ast.walk(tree):
                if isinstance(node, ast.Call) and isinstance(node.func, ast.Name) and node.func.id == "frozenset":
                    self.fail(name)
                if isinstance(node, ast.Return) and isinstance(node.value, (ast.Set, ast.SetComp)):
                    self.fail(name)


if __name__ == "__main__":
    unittest.main()

"""The package keeps to the subset of Python in which it is written: what of the rules a look at the code can tell."""

import ast
import builtins
import pathlib
import re
import unittest

FOLDER = pathlib.Path(__file__).resolve().parent.parent / "longsheet"
BUILTINS = set("""len range enumerate zip min max sum abs sorted reversed int str bool list tuple dict set isinstance ord
repr any all divmod iter next ValueError TypeError KeyError""".split())
METHODS = set("""append clear copy count endswith extend find get index insert isalnum isalpha isdigit islower isspace
isupper items join keys ljust lower lstrip partition pop remove replace reverse rfind rjust rpartition rsplit rstrip
setdefault split splitlines startswith strip update upper values zfill bit_length""".split())
OPERATORS = set("""__init__ __eq__ __len__ __iter__ __contains__ __getitem__ __invert__ __and__ __or__ __sub__""".split())
STATEMENTS = (ast.Assign, ast.AugAssign, ast.If, ast.While, ast.For, ast.Return, ast.Break, ast.Continue, ast.Pass, ast.Raise,
              ast.Expr, ast.Delete, ast.FunctionDef, ast.ClassDef, ast.ImportFrom, ast.Try)
BARRED_NODES = (ast.GeneratorExp, ast.SetComp, ast.Set, ast.Yield, ast.YieldFrom, ast.Await, ast.Starred, ast.NamedExpr,
                ast.Global, ast.Nonlocal, ast.AnnAssign, ast.With, ast.Assert, ast.Div, ast.MatMult)
BARRED_NAMES = set("""register mro elements open input law version_info attrgetter breakpoint compile copyright credits
delattr dir eval exec exit gc getattr globals hasattr help id importlib license locals methodcaller os quit setattr super
type vars sys map filter format args encode decode""".split())
BARRED_WORDS = re.compile(r"\b(type|typing|enum|Enum|Flag|Generic|Protocol|ABC|namedtuple|TypedDict)\b|dataclass|overload|"
                          r"contextmanager|\(type\)|Meta|metaclass|_wall")
ITERATED_BY = {"list", "tuple", "dict", "sorted", "sum", "any", "all", "enumerate", "zip", "min", "max"}
AT_ONCE = {"zip", "enumerate", "reversed", "range", "items", "keys", "values"}


def called(node):
    """The name of what a call calls, of a function or a method."""
    if isinstance(node, ast.Call):
        return node.func.id if isinstance(node.func, ast.Name) else getattr(node.func, "attr", None)
    return None


class Language(unittest.TestCase):
    @classmethod
    def setUpClass(cls):
        cls.texts = {path.name: path.read_text(encoding="utf-8") for path in sorted(FOLDER.glob("*.py"))}
        cls.trees = {name: ast.parse(text) for name, text in cls.texts.items()}
        for tree in cls.trees.values():
            for node in ast.walk(tree):
                for child in ast.iter_child_nodes(node):
                    child.parent = node

    def nodes(self, *kinds):
        for name, tree in self.trees.items():
            for node in ast.walk(tree):
                if isinstance(node, kinds):
                    yield f"{name}:{getattr(node, 'lineno', 0)}", node

    def test_files(self):
        for path in FOLDER.iterdir():
            if path.name != "__pycache__":
                self.assertRegex(path.name, r"^(__init__|[a-z][a-z0-9_]*)\.py$")
        self.assertLessEqual(len(self.texts), 100)

    def test_sizes_and_signs(self):
        for name, text in self.texts.items():
            self.assertEqual(set(text) - set(map(chr, range(32, 127))) - {"\n"}, set(), name)
            self.assertLessEqual(len(text.splitlines()), 399, name)
            self.assertLessEqual(max(map(len, text.splitlines())), 120, name)
            self.assertTrue(text.endswith("\n") and not text.endswith("\n\n"), name)
        for place, node in self.nodes(ast.FunctionDef):
            self.assertLessEqual(node.end_lineno - node.lineno + 1, 40, place)

    def test_module_level(self):
        for name, tree in self.trees.items():
            bound = []
            self.assertIsNotNone(ast.get_docstring(tree), name)
            for node in tree.body[1:]:
                self.assertIsInstance(node, (ast.ImportFrom, ast.Assign, ast.FunctionDef, ast.ClassDef), name)
                if isinstance(node, ast.Assign):
                    self.assertEqual(len(node.targets), 1)
                    bound.append(node.targets[0].id)
                    for inner in ast.walk(node.value):
                        self.assertNotIsInstance(inner, (ast.Call, ast.Name, ast.ListComp, ast.Lambda), name)
                elif isinstance(node, ast.ImportFrom):
                    bound += [alias.name for alias in node.names]
                else:
                    bound.append(node.name)
            self.assertEqual(len(bound), len(set(bound)), name)

    def test_imports(self):
        led = {name[:-3]: set() for name in self.trees}
        for place, node in self.nodes(ast.Import):
            self.fail(place)
        for place, node in self.nodes(ast.ImportFrom):
            if node.module == "math":
                self.assertTrue({alias.name for alias in node.names} <= {"gcd", "lcm"}, place)
                continue
            package, file = node.module.split(".")
            self.assertEqual([package, node.level], ["longsheet", 0], place)
            led[place.split(".")[0]].add(file)
            own = [one.name for one in self.trees[f"{file}.py"].body if isinstance(one, (ast.FunctionDef, ast.ClassDef))]
            own += [one.targets[0].id for one in self.trees[f"{file}.py"].body if isinstance(one, ast.Assign)]
            for alias in node.names:
                self.assertIn(alias.name, own, place)
                self.assertIsNone(alias.asname, place)
                self.assertFalse(alias.name.startswith("_"), place)
                self.assertIn(alias.name, [one.id for one in ast.walk(self.trees[place.split(":")[0]])
                                           if isinstance(one, ast.Name)], f"{place}: not used")
        while led:
            free = [name for name in led if not led[name] & set(led)]
            self.assertTrue(free, "files import from each other")
            led = {name: led[name] for name in led if name not in free}

    def test_statements_and_expressions(self):
        for place, node in self.nodes(ast.stmt):
            self.assertIsInstance(node, STATEMENTS, place)
        for place, node in self.nodes(*BARRED_NODES):
            self.fail(f"{place}: {type(node).__name__}")
        for place, node in self.nodes(ast.Constant):
            self.assertNotIsInstance(node.value, (float, complex), place)
            if isinstance(node.value, str):
                self.assertNotIn("%", node.value, place)
        for place, node in self.nodes(ast.Compare):
            for sign, other in zip(node.ops, node.comparators):
                if isinstance(sign, (ast.Is, ast.IsNot)):
                    self.assertTrue(isinstance(other, ast.Constant) and other.value in (None, True, False), place)
        for place, node in self.nodes(ast.Pow):
            self.assertIn(getattr(node.parent.right, "value", None), range(65), place)
        for place, node in self.nodes(ast.FormattedValue):
            for inner in ast.walk(node.value):
                self.assertFalse(isinstance(inner, ast.Constant) and isinstance(inner.value, str), place)

    def test_functions_and_classes(self):
        for place, node in self.nodes(ast.FunctionDef, ast.Lambda, ast.ClassDef):
            if isinstance(node, ast.ClassDef):
                self.assertEqual(node.decorator_list, [], place)
                continue
            args = node.args
            self.assertEqual([args.vararg, args.kwarg, args.posonlyargs], [None, None, []], place)
            self.assertTrue(all(arg.annotation is None for arg in args.args), place)
            if isinstance(node, ast.FunctionDef):
                self.assertIsNone(node.returns, place)
                self.assertIsInstance(node.parent, (ast.Module, ast.ClassDef), place)
                if node.name.startswith("__"):
                    self.assertIn(node.name, OPERATORS, place)
                for decorator in node.decorator_list:
                    self.assertEqual(getattr(decorator, "id", None), "property", place)
        for place, node in self.nodes(ast.FunctionDef):
            if node.name == "__len__":
                self.assertEqual(called(node.body[-1].value), "len", place)

    def test_builtins(self):
        known = set(dir(builtins)) - {"_"}
        for place, node in self.nodes(ast.Name):
            if node.id in known and not (node.id == "property" and node in getattr(node.parent, "decorator_list", [])):
                self.assertIn(node.id, BUILTINS, place)
                self.assertIsInstance(node.ctx, ast.Load, place)
        for place, node in self.nodes(ast.arg):
            self.assertNotIn(node.arg, known, place)
        for place, node in self.nodes(ast.FunctionDef, ast.ClassDef):
            self.assertNotIn(node.name, known, place)

    def test_names(self):
        for name, tree in self.trees.items():
            reserved = {alias.name for node in tree.body if isinstance(node, ast.ImportFrom) for alias in node.names}
            reserved |= {node.name for node in tree.body if isinstance(node, ast.ClassDef)}
            for node in ast.walk(tree):
                bound = node.arg if isinstance(node, ast.arg) else None
                if isinstance(node, ast.Name) and isinstance(node.ctx, ast.Store):
                    bound = node.id
                if bound is not None:
                    self.assertNotIn(bound, reserved | BARRED_NAMES, f"{name}:{node.lineno}")
                    self.assertFalse(bound.startswith("__"), f"{name}:{node.lineno}")
        for name, text in self.texts.items():
            code = "\n".join(ast.unparse(node) for node in self.trees[name].body
                             if not (isinstance(node, ast.Expr) and isinstance(node.value, ast.Constant)))
            code = re.sub(r'"""(.|\n)*?"""', "", code)
            self.assertIsNone(BARRED_WORDS.search(code), name)

    def test_methods(self):
        own = {node.name for _, node in self.nodes(ast.FunctionDef) if isinstance(node.parent, ast.ClassDef)}
        for place, node in self.nodes(ast.Call):
            if isinstance(node.func, ast.Attribute):
                self.assertIn(node.func.attr, own | METHODS, place)
                if node.func.attr in METHODS:
                    self.assertEqual(node.keywords, [], place)
            elif isinstance(node.func, ast.Name) and node.func.id in BUILTINS:
                for keyword in node.keywords:
                    self.assertIn((node.func.id, keyword.arg), [("sorted", "key"), ("min", "key"), ("max", "key"),
                                                                ("min", "default"), ("max", "default")], place)

    def test_what_is_iterated_at_once(self):
        for place, node in self.nodes(ast.Call):
            if called(node) not in AT_ONCE:
                continue
            if isinstance(node.func, ast.Name) == (called(node) in ("items", "keys", "values")):
                continue
            parent = node.parent
            at_once = isinstance(parent, (ast.For, ast.comprehension)) and parent.iter is node
            self.assertTrue(at_once or called(parent) in ITERATED_BY, place)

    def test_sets(self):
        for place, node in self.nodes(ast.Call):
            if called(node) in ("set", "frozenset"):
                self.assertIn(called(node.parent), ("len", "sorted"), place)

    def test_errors(self):
        for place, node in self.nodes(ast.Raise):
            self.assertIsInstance(node.exc, ast.Call, place)
        for place, node in self.nodes(ast.ExceptHandler):
            self.assertIsInstance(node.type, ast.Name, place)

    def test_what_a_loop_goes_over_is_not_changed_in_it(self):
        changing = {"append", "clear", "extend", "insert", "pop", "remove", "reverse", "setdefault", "update"}
        for place, node in self.nodes(ast.For):
            names = {one.id for one in ast.walk(node.iter) if isinstance(one, ast.Name)}
            if called(node.iter) == "list":
                continue
            for inner in [one for line in node.body for one in ast.walk(line)]:
                if isinstance(inner, ast.Call) and isinstance(inner.func, ast.Attribute) and inner.func.attr in changing:
                    self.assertNotIn(getattr(inner.func.value, "id", None), names, place)
                if isinstance(inner, ast.Subscript) and isinstance(inner.ctx, (ast.Store, ast.Del)):
                    self.assertNotIn(getattr(inner.value, "id", None), names, place)


if __name__ == "__main__":
    unittest.main()

"""The rules of the language that a glance at the code can check; the others are kept by reading."""

import ast
import builtins
import inspect
import pathlib
import unittest

import oncedefaults

FOLDER = pathlib.Path(oncedefaults.__file__).parent
TEXTS = {path.stem: path.read_text(encoding="utf-8") for path in sorted(FOLDER.glob("*.py"))}
TREES = {name: ast.parse(text) for name, text in TEXTS.items()}

BUILTINS = (
    "len range enumerate zip min max sum abs sorted reversed int str bool bytes list tuple dict set frozenset isinstance ord "
    "repr any all divmod pow iter next ValueError TypeError KeyError IndexError LookupError classmethod staticmethod property"
).split()
VALUE_METHODS = (
    "append clear copy count endswith extend find get index insert isalnum isalpha isdigit islower isspace isupper items join "
    "keys ljust lower lstrip partition pop remove replace reverse rfind rjust rpartition rsplit rstrip setdefault split "
    "splitlines startswith strip update upper values zfill"
).split()
SPECIAL = "__init__ __eq__ __len__ __iter__ __getitem__ __contains__ __call__".split()
BARRED_WORDS = "type typing enum Enum Flag Generic Protocol ABC namedtuple dataclass overload contextmanager metaclass Meta".split()
BARRED_NAMES = (
    "register mro elements open input law version_info with_traceback add_note attrgetter breakpoint builtins compile "
    "copyright credits delattr dir eval exec exit gc globals help id importlib license locals methodcaller os quit super "
    "vars sys"
).split()
INTERFACE = {
    "parts": {
        "Param": "__init__ __eq__", "Method": "__init__ __eq__ of param", "Kind": "__init__ __eq__ of",
        "Library": "__init__ __eq__ __len__ __iter__ __getitem__ __contains__ of places defaults value_names method_of made_anew "
                   "version face",
    },
    "texts": {"show_library": "", "read_library": ""},
    "worlds": {
        "is_world": "", "first_world": "", "steps_at": "", "report": "", "Callers": "__init__ __eq__ allows",
        "Table": "__init__ __len__ __iter__ __getitem__ __contains__ __call__ depth after history reports",
    },
    "runs": {"Run": "__init__ __len__ step call put take view world report behind put_into", "calls_of": ""},
    "noticing": {"notice": "", "is_notice": "", "heard": "", "stirring": ""},
    "joints": {
        "first_joint": "", "is_joint": "", "sides": "", "joint_after": "", "compare": "", "is_comparison": "", "alike": "", "newcomers": "",
        "is_newcomers": "",
    },
    "repairs": {"choices": "", "fewest": "", "is_fewest": "", "least_choices": "", "classes": ""},
}


def nodes(*kinds):
    for name, tree in TREES.items():
        for node in ast.walk(tree):
            if isinstance(node, kinds):
                yield name, node


def bound_names(function):
    """Parameters and local variables of a function."""
    args = function.args
    found = [arg.arg for arg in args.args + args.kwonlyargs + [star for star in (args.vararg, args.kwarg) if star]]
    return found + [node.id for node in ast.walk(function) if isinstance(node, ast.Name) and isinstance(node.ctx, ast.Store)]


def defined(tree):
    """Names that a file defines, without those that it imports."""
    found = [node.name for node in tree.body if isinstance(node, (ast.FunctionDef, ast.ClassDef))]
    return found + [node.targets[0].id for node in tree.body if isinstance(node, ast.Assign)]


def imported(tree):
    return [alias.name for node in tree.body if isinstance(node, ast.ImportFrom) for alias in node.names]


class Language(unittest.TestCase):
    def test_files_and_characters(self):
        self.assertEqual([path.name for path in FOLDER.iterdir() if path.suffix != ".py" and path.name != "__pycache__"], [])
        for name, text in TEXTS.items():
            self.assertTrue(name == "__init__" or (name.isascii() and name.islower()), name)
            self.assertNotIn(name, dir(builtins))
            self.assertTrue(all(" " <= letter <= "~" or letter == "\n" for letter in text), name)
            lines = text.split("\n")
            self.assertLess(len(lines), 400, name)
            self.assertLessEqual(max(map(len, lines)), 120, name)

    def test_functions(self):
        for name, node in nodes(ast.FunctionDef):
            self.assertLessEqual(node.end_lineno - node.lineno + 1, 40, (name, node.name))
            self.assertTrue(not node.name.startswith("__") or node.name in SPECIAL, node.name)
            for decorator in node.decorator_list:
                self.assertIn(decorator.id, ("classmethod", "staticmethod", "property"))
            taken = [*imported(TREES[name]), *[other.name for other in TREES[name].body if isinstance(other, ast.ClassDef)]]
            for bound in bound_names(node):
                self.assertNotIn(bound, taken, (name, node.name))

    def test_statements(self):
        barred = (
            ast.Global, ast.Nonlocal, ast.AsyncFunctionDef, ast.GeneratorExp, ast.Lambda, ast.With, ast.Match, ast.AnnAssign, ast.Import,
            ast.NamedExpr, ast.Div, ast.Assert, ast.Delete, ast.Pow, ast.Mod,
        )
        for name, node in nodes(*barred):
            self.fail((name, node.lineno, node))
        for name, node in nodes(ast.Set):
            self.fail((name, node.lineno))
        for name, tree in TREES.items():
            for node in tree.body:
                plain = isinstance(node, ast.Expr) and isinstance(node.value, ast.Constant)
                self.assertTrue(plain or isinstance(node, (ast.ImportFrom, ast.FunctionDef, ast.ClassDef, ast.Assign)), (name, node.lineno))

    def test_identity_is_asked_of_none_only(self):
        for name, node in nodes(ast.Compare):
            for sign, right in zip(node.ops, node.comparators):
                if isinstance(sign, (ast.Is, ast.IsNot)):
                    self.assertTrue(isinstance(right, ast.Constant) and right.value is None, (name, node.lineno))

    def test_generators_and_sets_are_used_on_the_spot(self):
        generators = [node.name for _, node in nodes(ast.FunctionDef) if any(isinstance(inner, (ast.Yield, ast.YieldFrom)) for inner in ast.walk(node))]
        for name, tree in TREES.items():
            for parent in ast.walk(tree):
                for node in ast.iter_child_nodes(parent):
                    called = node.func.id if isinstance(node, ast.Call) and isinstance(node.func, ast.Name) else None
                    if called in generators:
                        is_listed = isinstance(parent, ast.Call) and parent.func.id == "list"
                        self.assertTrue(is_listed or isinstance(parent, (ast.For, ast.YieldFrom)), (name, node.lineno))
                        self.assertTrue(all(isinstance(arg, (ast.Name, ast.Constant)) for arg in node.args), (name, node.lineno))
                    if called == "set" or isinstance(node, ast.SetComp):
                        self.assertIn(parent.func.id, ("sorted", "len"), (name, node.lineno))
                    if called in ("zip", "enumerate", "range", "reversed"):
                        within = isinstance(parent, (ast.For, ast.comprehension)) or parent.func.id in ("list", "tuple")
                        self.assertTrue(within, (name, node.lineno))
        for name, node in nodes(ast.Try):
            self.assertEqual(len(node.handlers), 1)
            self.assertIn(node.handlers[0].type.id, ("PartError", "CallError", "BadHistory"), name)

    def test_imports(self):
        seen = []
        graph = {name: [] for name in TREES}
        for name, node in nodes(ast.ImportFrom):
            self.assertTrue(node.level == 0 and node.module.startswith("oncedefaults."), (name, node.module))
            other = node.module.partition(".")[2]
            graph[name].append(other)
            for alias in node.names:
                self.assertIsNone(alias.asname)
                self.assertIn(alias.name, defined(TREES[other]), (name, alias.name))
        while len(seen) < len(graph):
            ready = [name for name in graph if name not in seen and all(other in seen for other in graph[name])]
            self.assertNotEqual(ready, [], "files import from each other")
            seen += ready

    def test_names(self):
        for name, tree in TREES.items():
            used = defined(tree) + imported(tree)
            self.assertEqual(len(used), len(set(used)), name)
            for function in [node for node in ast.walk(tree) if isinstance(node, ast.FunctionDef)]:
                used += bound_names(function)
            for one in used:
                self.assertNotIn(one, dir(builtins), name)
                self.assertNotIn(one, BARRED_NAMES, name)
                self.assertTrue(one == "_" or not one.startswith("__"), one)
            for node in ast.walk(tree):
                if isinstance(node, ast.Name) and isinstance(node.ctx, ast.Load):
                    self.assertNotEqual(node.id, "_", (name, node.lineno))
                    if node.id in dir(builtins):
                        self.assertIn(node.id, BUILTINS, name)

    def test_attributes_and_methods(self):
        methods = {}
        attributes = {}
        for _, node in nodes(ast.ClassDef):
            for function in [inner for inner in node.body if isinstance(inner, ast.FunctionDef)]:
                self.assertNotIn(function.name, methods.get(node.name, []))
                methods.setdefault(node.name, []).append(function.name)
            for inner in ast.walk(node):
                if isinstance(inner, ast.Attribute) and isinstance(inner.ctx, ast.Store):
                    attributes.setdefault(node.name, []).append(inner.attr)
        stored = {one for some in attributes.values() for one in some}
        called = {one for some in methods.values() for one in some}
        self.assertEqual(stored & called, set())
        self.assertEqual(stored & set("items keys values pop update append clear extend insert remove reverse sort args format".split()), set())
        values = {node.targets[0].id for _, owner in nodes(ast.ClassDef) for node in owner.body if isinstance(node, ast.Assign)}
        for name, node in nodes(ast.Attribute):
            if isinstance(node.ctx, ast.Load):
                self.assertIn(node.attr, stored | called | values | set(VALUE_METHODS), (name, node.lineno))

    def test_strings_and_words(self):
        for name, text in TEXTS.items():
            for word in BARRED_WORDS:
                self.assertNotRegex(text, rf"\b{word}\b", name)
        for name, node in nodes(ast.Constant):
            if isinstance(node.value, str):
                self.assertNotIn("%", node.value, name)
                self.assertTrue(all(" " <= letter <= "~" or letter == "\n" for letter in node.value), name)

    def test_tables_at_module_level_are_plain(self):
        for name, tree in TREES.items():
            for node in tree.body:
                if isinstance(node, ast.Assign):
                    inner = [part for part in ast.walk(node.value) if isinstance(part, (ast.List, ast.Dict))]
                    self.assertTrue(inner in ([], [node.value]), (name, node.lineno))

    def test_interface_is_defined_where_it_is_listed(self):
        for file, parts in INTERFACE.items():
            for name, methods in parts.items():
                self.assertIn(name, defined(TREES[file]))
                module = __import__(f"oncedefaults.{file}", fromlist=[name])
                self.assertEqual(getattr(module, name).__module__, f"oncedefaults.{file}")
                for method in methods.split():
                    self.assertIn(method, vars(getattr(module, name)), name)
        from oncedefaults.worlds import steps_at
        self.assertTrue(inspect.isgeneratorfunction(steps_at))

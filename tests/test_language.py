"""What of ../shared/LANGUAGE.md can be seen without much reading, and where the interface stands."""

import ast
import builtins
import pathlib
import unittest

FOLDER = pathlib.Path(__file__).resolve().parent.parent / "reentry"

ALLOWED_BUILTINS = set(
    "len range enumerate zip min max sum abs sorted reversed int str bool list tuple dict set isinstance ord repr any all "
    "divmod map iter next property staticmethod classmethod super True False None NotImplemented "
    "Exception ValueError TypeError KeyError IndexError LookupError ZeroDivisionError ArithmeticError OverflowError "
    "RuntimeError NotImplementedError".split()
)
NEVER_CAUGHT = set(
    "Exception BaseException TypeError ArithmeticError OverflowError RuntimeError NotImplementedError AttributeError".split()
)
BARRED_WORDS = set(
    "register mro elements open input law version_info with_traceback add_note type typing enum Enum Flag Generic Protocol "
    "ABC namedtuple NamedTuple TypedDict eval exec id vars dir globals locals getattr setattr hasattr delattr compile os gc".split()
)
LIBRARY = {
    "heapq": ("heappush", "heappop", "heapify", "heapreplace", "heappushpop"),
    "math": ("gcd", "lcm", "isqrt", "comb", "perm", "factorial"),
    "itertools": ("product", "combinations", "permutations"),
}
BUILTIN_METHODS = set(dir(str) + dir(list) + dir(dict) + dir(int) + dir(set) + dir(bytes) + dir(tuple))
FREE_ATTRIBUTES = set("count index title find get join lower upper split strip copy add".split())
FREE_METHODS = FREE_ATTRIBUTES | {"discard"}
DOUBLE_UNDERSCORES = set(
    "init eq repr str len enter exit call iter lt le gt ge ne add sub mul floordiv mod pow and or xor lshift rshift neg pos "
    "invert abs bool contains getitem setitem".split()
)

KINDS = "Number Variable Plus Minus Times Equal Below Not Both Either Choose".split()
INTERFACE = {
    "names": {"functions": ["is_name", "is_size", "is_integer"], "classes": {}},
    "expressions": {"functions": ["read_expression"], "classes": {
        "Expression": "evaluate __add__ __sub__ __mul__ __and__ __or__ __invert__ __eq__ __str__ __repr__".split(),
        **{kind: ["__init__"] for kind in KINDS},
    }},
    "statements": {"functions": [], "classes": {
        "Statement": "__eq__ __str__ __repr__".split(),
        **{kind: ["__init__"] for kind in "Assign If While Call Return Fail Attempt".split()},
    }},
    "modules": {"functions": [], "classes": {
        "Entry": ["__init__", "__eq__"], "Module": ["__init__", "read", "__eq__", "__str__", "__repr__"],
    }},
    "rules": {"functions": [], "classes": {"Rule": ["__init__", "after", "__eq__"]}},
    "machines": {"functions": [], "classes": {
        "Machine": ["enter", "resume", "values_in"], "Begun": ["__init__"], "Guarded": ["__init__"],
        "Watched": ["__init__"], "Layered": ["__init__"],
    }},
    "tables": {"functions": [], "classes": {
        "Table": "__init__ full allows __or__ __and__ __sub__ __contains__ within __len__ __iter__ __eq__ __repr__".split(),
    }},
    "sessions": {"functions": ["responses_of"], "classes": {
        "Session": "__init__ call answer fail __call__ choices undo twin __len__".split(),
    }},
    "plays": {"functions": ["plays"], "classes": {"Play": "at part moves __repr__".split()}},
    "likeness": {"functions": ["alike", "parting"], "classes": {}},
    "always": {"functions": ["holds_always", "breach", "is_kept", "violation"], "classes": {}},
    "depth": {"functions": ["depth_of", "deep_play", "coming", "play_to", "used_lines"], "classes": {}},
    "harmless": {"functions": ["greatest_tables", "least_tables"], "classes": {}},
    "waiting": {"functions": ["is_quiet", "can_wait", "obstacle", "put_off"], "classes": {}},
    "shorter": {"functions": ["without", "shorter"], "classes": {}},
    "clients": {"functions": ["client_of", "linked"], "classes": {}},
    "reports": {"functions": ["listing", "summary"], "classes": {}},
    "workshop": {"functions": [], "classes": {"Workshop": "__init__ do do_all undo module __len__ __contains__".split()}},
    "checker": {"functions": ["holds"], "classes": {}},
    "certificates": {"functions": ["certify_alike", "certify_always", "certify_depth"], "classes": {}},
}


def files():
    return sorted(path for path in FOLDER.rglob("*") if "__pycache__" not in path.parts)


def trees():
    return {path: ast.parse(path.read_text()) for path in files()}


def parents(tree):
    return {inner: node for node in ast.walk(tree) for inner in ast.iter_child_nodes(node)}


class TestLanguage(unittest.TestCase):
    def each(self, kind):
        for path, tree in trees().items():
            for node in ast.walk(tree):
                if isinstance(node, kind):
                    yield f"{path.name}:{getattr(node, 'lineno', 0)}", node, tree

    def test_files(self):
        self.assertIn(FOLDER / "__init__.py", files())
        for path in files():
            self.assertRegex(path.name, r"^[a-z0-9_]+\.py$")
            text = path.read_text(encoding="utf-8")
            self.assertEqual([sign for sign in text if sign != "\n" and not " " <= sign <= "~"], [], path)
            self.assertTrue(text.endswith("\n"))
            lines = text.split("\n")[:-1]
            self.assertLessEqual(len(lines), 399, path)
            self.assertEqual([line for line in lines if len(line) > 120 or line != line.rstrip()], [], path)

    def test_functions_are_short(self):
        for place, node, _ in self.each(ast.FunctionDef):
            self.assertLessEqual(node.end_lineno - node.lineno + 1, 40, place)

    def test_module_level(self):
        for path, tree in trees().items():
            for index, node in enumerate(tree.body):
                docstring = index == 0 and isinstance(node, ast.Expr) and isinstance(node.value, ast.Constant)
                self.assertTrue(docstring or isinstance(node, (ast.ImportFrom, ast.FunctionDef, ast.ClassDef, ast.Assign)), path)
                if isinstance(node, ast.Assign):
                    self.assertEqual([type(target) for target in node.targets], [ast.Name])
            self.assertTrue(ast.get_docstring(tree), path)
            bound = [node.name for node in tree.body if isinstance(node, (ast.FunctionDef, ast.ClassDef))]
            bound += [node.targets[0].id for node in tree.body if isinstance(node, ast.Assign)]
            bound += [alias.name for node in tree.body if isinstance(node, ast.ImportFrom) for alias in node.names]
            self.assertEqual(len(bound), len(set(bound)), path)

    def test_imports(self):
        defined = {}
        for path, tree in trees().items():
            names = [node.name for node in tree.body if isinstance(node, (ast.FunctionDef, ast.ClassDef))]
            defined[f"reentry.{path.stem}"] = names + [node.targets[0].id for node in tree.body if isinstance(node, ast.Assign)]
        wanted = {}
        for path, tree in trees().items():
            wanted[f"reentry.{path.stem}"] = []
            for node in tree.body:
                if isinstance(node, ast.ImportFrom):
                    self.assertEqual(node.level, 0)
                    for alias in node.names:
                        self.assertIsNone(alias.asname)
                        self.assertIn(alias.name, defined.get(node.module, LIBRARY.get(node.module, ())), path)
                    wanted[f"reentry.{path.stem}"].append(node.module)
                    self.assertLessEqual({alias.name for alias in node.names}, {
                        one.id for one in ast.walk(tree) if isinstance(one, ast.Name)
                    }, path)
        done = set(LIBRARY)
        while left := [name for name in wanted if name not in done]:
            free = [name for name in left if set(wanted[name]) <= done]
            self.assertTrue(free, f"files that import from each other: {left}")
            done.update(free)

    def test_statements_and_signs_that_are_not_used(self):
        barred = (
            ast.Global, ast.AsyncFunctionDef, ast.AsyncFor, ast.AsyncWith, ast.Await, ast.Import, ast.Div, ast.GeneratorExp,
            ast.AnnAssign, ast.TryStar, ast.Delete,
        )
        for place, node, _ in self.each(barred):
            self.fail(f"{place} {type(node).__name__}")
        for place, node, _ in self.each(ast.Constant):
            self.assertNotIsInstance(node.value, (float, complex), place)
            if isinstance(node.value, str):
                self.assertNotIn("%", node.value, place)

    def test_builtins(self):
        own = {name for name in dir(builtins) if not name.startswith("_")}
        for place, node, _ in self.each(ast.Name):
            if node.id in own:
                self.assertIn(node.id, ALLOWED_BUILTINS, place)
                self.assertIsInstance(node.ctx, ast.Load, place)
            self.assertNotIn(node.id, BARRED_WORDS, place)
            self.assertFalse(node.id.startswith("__"), place)
        for place, node, _ in self.each((ast.arg, ast.FunctionDef, ast.ClassDef)):
            name = node.arg if isinstance(node, ast.arg) else node.name
            self.assertNotIn(name, own | BARRED_WORDS, place)

    def test_names_do_not_hide_classes_and_imports(self):
        for path, tree in trees().items():
            hidden = [node.name for node in tree.body if isinstance(node, (ast.ClassDef, ast.FunctionDef))]
            hidden += [alias.name for node in tree.body if isinstance(node, ast.ImportFrom) for alias in node.names]
            for node in ast.walk(tree):
                if isinstance(node, ast.Name) and isinstance(node.ctx, ast.Store):
                    self.assertNotIn(node.id, hidden, f"{path.name}:{node.lineno}")
                if isinstance(node, ast.arg):
                    self.assertNotIn(node.arg, hidden, f"{path.name}:{node.lineno}")

    def test_classes(self):
        methods, attributes = {}, {}
        for place, node, _ in self.each(ast.ClassDef):
            self.assertEqual(node.decorator_list, [], place)
            self.assertTrue(ast.get_docstring(node), place)
            for inner in node.body:
                self.assertIsInstance(inner, (ast.Expr, ast.FunctionDef, ast.Assign), place)
                if isinstance(inner, ast.FunctionDef):
                    if inner.name.startswith("__"):
                        self.assertIn(inner.name[2:-2], DOUBLE_UNDERSCORES, place)
                    else:
                        methods[inner.name] = place
                    for decorator in inner.decorator_list:
                        self.assertIn(ast.unparse(decorator), ("staticmethod", "classmethod", "property"), place)
        for place, node, _ in self.each(ast.Attribute):
            if isinstance(node.ctx, ast.Store):
                attributes[node.attr] = place
                self.assertEqual(ast.unparse(node.value), "self", place)
        self.assertEqual(sorted(set(methods) & set(attributes)), [])
        self.assertEqual(sorted((set(methods) & BUILTIN_METHODS) - FREE_METHODS), [])
        self.assertEqual(sorted((set(attributes) & BUILTIN_METHODS) - FREE_ATTRIBUTES), [])
        for place, node, _ in self.each(ast.Attribute):
            known = set(methods) | set(attributes) | BUILTIN_METHODS | {"WORD"}
            self.assertIn(node.attr, known, place)
            self.assertNotIn(node.attr, BARRED_WORDS, place)

    def test_sets(self):
        for place, node, tree in self.each((ast.Set, ast.SetComp)):
            around = parents(tree)[node]
            self.assertIn(ast.unparse(around).split("(")[0], ("sorted", "len"), place)

    def test_handlers(self):
        for place, node, _ in self.each(ast.ExceptHandler):
            self.assertIsNotNone(node.type, place)
            names = [one.id for one in ast.walk(node.type) if isinstance(one, ast.Name)]
            self.assertEqual(set(names) & (NEVER_CAUGHT | {"ValueError", "LookupError", "IndexError"}), set(), place)
        for place, node, _ in self.each(ast.Raise):
            self.assertTrue(node.exc is None or isinstance(node.exc, ast.Call), place)
        for place, node, _ in self.each(ast.Try):
            for inner in [inner for statement in node.finalbody for inner in ast.walk(statement)]:
                self.assertIsInstance(inner, (ast.If, ast.Compare, ast.Is, ast.Constant, ast.Assign, ast.Tuple, ast.Name, ast.Attribute, ast.expr_context), place)

    def test_the_interface_stands_where_it_is_listed(self):
        for name, parts in INTERFACE.items():
            tree = ast.parse((FOLDER / f"{name}.py").read_text())
            functions = [node.name for node in tree.body if isinstance(node, ast.FunctionDef)]
            classes = {node.name: node for node in tree.body if isinstance(node, ast.ClassDef)}
            for function in parts["functions"]:
                self.assertIn(function, functions)
            for kind, methods in parts["classes"].items():
                defined = [node.name for node in classes[kind].body if isinstance(node, ast.FunctionDef)]
                self.assertLessEqual(set(methods), set(defined), kind)
        for kind in KINDS:
            names = [node.targets[0].id for node in ast.walk(ast.parse((FOLDER / "expressions.py").read_text()))
                     if isinstance(node, ast.Assign) and isinstance(node.targets[0], ast.Name)]
            self.assertGreaterEqual(names.count("WORD"), len(KINDS))

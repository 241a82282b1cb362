"""The package keeps to the subset of Python in which it is written, as far as this can be seen easily."""

import ast
import builtins
import pathlib
import unittest

PACKAGE = pathlib.Path(__file__).resolve().parent.parent / "leastlaid"
FILES = sorted(PACKAGE.glob("*.py"))
METHODS = set(
    "append clear copy count endswith extend find get index insert isalnum isalpha isdigit islower isspace isupper items join "
    "keys ljust lower lstrip partition pop remove replace reverse rfind rjust rpartition rsplit rstrip setdefault split "
    "splitlines startswith strip update upper values zfill bit_length add discard".split())
BARRED = set("sort args encode decode hex fromhex format discard".split())
BUILTINS = set(
    "len range enumerate zip min max sum abs sorted reversed int str bool bytes list tuple dict set frozenset isinstance ord "
    "repr any all divmod pow getattr hasattr setattr iter next map super NotImplemented Exception ValueError TypeError "
    "KeyError IndexError LookupError ZeroDivisionError ArithmeticError OverflowError RuntimeError NotImplementedError "
    "AttributeError StopIteration object float".split())
NOT_THERE = (ast.Global, ast.AsyncFunctionDef, ast.AsyncFor, ast.AsyncWith, ast.Await, ast.Div, ast.TryStar)
# Examples that are run put what they show into a name of its own among the builtins.
NAMES = set(vars(builtins)) - {"_"}
WORDS = ("type", "typing", "enum", "register", "input", "law", "mro")


class Language(unittest.TestCase):
    def trees(self):
        return [(path, ast.parse(path.read_text())) for path in FILES]

    def test_files(self):
        self.assertEqual(sorted(path.name for path in PACKAGE.iterdir() if path.name != "__pycache__"),
                         [path.name for path in FILES])
        for path in FILES:
            text = path.read_text()
            lines = text.split("\n")
            self.assertLess(len(lines), 400, path)
            self.assertTrue(all(" " <= sign <= "~" or sign == "\n" for sign in text), path)
            self.assertLessEqual(max(map(len, lines)), 120, path)

    def test_functions(self):
        for path, tree in self.trees():
            for node in ast.walk(tree):
                if isinstance(node, ast.FunctionDef):
                    self.assertLessEqual(node.end_lineno - node.lineno + 1, 40, (path, node.name))
                    self.assertEqual(node.decorator_list, [])

    def test_imports(self):
        for path, tree in self.trees():
            for node in ast.walk(tree):
                self.assertNotIsInstance(node, ast.Import)
                if isinstance(node, ast.ImportFrom):
                    self.assertIn(node, tree.body)
                    self.assertTrue(node.module.startswith("leastlaid."))
                    source = ast.parse((PACKAGE / (node.module.partition(".")[2] + ".py")).read_text())
                    defined = [part.name for part in source.body if isinstance(part, (ast.FunctionDef, ast.ClassDef))]
                    defined += [part.targets[0].id for part in source.body if isinstance(part, ast.Assign)]
                    for alias in node.names:
                        self.assertIn(alias.name, defined)

    def test_module_level(self):
        for path, tree in self.trees():
            bound = []
            # Parameters and variables must not have these names; those of functions they may have.
            taken = []
            for at, node in enumerate(tree.body):
                self.assertIsInstance(node, (ast.Expr, ast.ImportFrom, ast.FunctionDef, ast.ClassDef, ast.Assign))
                if isinstance(node, ast.Expr):
                    self.assertEqual(at, 0)
                elif isinstance(node, ast.ImportFrom):
                    bound += [alias.name for alias in node.names]
                    taken += [alias.name for alias in node.names]
                elif isinstance(node, ast.Assign):
                    bound += [target.id for target in node.targets]
                    inner = list(ast.walk(node.value))[1:]
                    self.assertFalse([part for part in inner if isinstance(part, (ast.List, ast.Dict, ast.Call))])
                else:
                    bound.append(node.name)
                    taken += [node.name] if isinstance(node, ast.ClassDef) else []
            self.assertEqual(len(bound), len(set(bound)), path)
            for node in ast.walk(tree):
                if isinstance(node, ast.arg):
                    self.assertNotIn(node.arg, taken, path)
                elif isinstance(node, ast.Name) and isinstance(node.ctx, ast.Store):
                    outside = [part for part in tree.body if isinstance(part, ast.Assign) and node in part.targets]
                    self.assertTrue(outside or node.id not in taken, (path, node.id))

    def test_own_names(self):
        """What is added to stored sets would be taken for a method of that name; attributes are no methods of their class."""
        for path, tree in self.trees():
            for node in ast.walk(tree):
                if not isinstance(node, ast.ClassDef):
                    continue
                methods = [part.name for part in node.body if isinstance(part, ast.FunctionDef)]
                stored = [part.attr for part in ast.walk(node) if isinstance(part, ast.Attribute) and isinstance(part.ctx, ast.Store)]
                self.assertEqual(len(methods), len(set(methods)))
                self.assertFalse(set(methods) & set(stored), path)
                self.assertFalse((set(methods) | set(stored)) & (METHODS | BARRED), path)
                for name in methods:
                    self.assertTrue(not name.startswith("__") or name in ("__init__", "__eq__"), (path, name))

    def test_nothing_is_iterated_later(self):
        """Where a class compares, all, any and the like take lists; and no row of calls is kept."""
        for path, tree in self.trees():
            for node in ast.walk(tree):
                self.assertNotIsInstance(node, (ast.GeneratorExp, ast.Yield, ast.YieldFrom, ast.Set, ast.Match, ast.With), path)
                if isinstance(node, ast.Assign) and isinstance(node.value, ast.Call):
                    called = node.value.func
                    name = called.id if isinstance(called, ast.Name) else called.attr
                    self.assertNotIn(name, ("zip", "enumerate", "reversed", "range", "items", "keys", "values"), path)

    def test_tries_and_raises(self):
        kinds = {node.name for node in ast.parse((PACKAGE / "errors.py").read_text()).body if isinstance(node, ast.ClassDef)}
        for path, tree in self.trees():
            for node in ast.walk(tree):
                if isinstance(node, ast.ExceptHandler):
                    self.assertIn(node.type.id, kinds - {"LaidError"})
                if isinstance(node, ast.Raise):
                    self.assertIn(node.exc.func.id, kinds - {"LaidError"})

    def test_exponents_and_docstrings(self):
        for path, tree in self.trees():
            self.assertTrue(path.name == "__init__.py" or ast.get_docstring(tree), path)
            for node in ast.walk(tree):
                if isinstance(node, ast.BinOp) and isinstance(node.op, ast.Pow):
                    self.assertTrue(0 <= node.right.value <= 64)
                if isinstance(node, ast.Call):
                    self.assertFalse([part for part in node.keywords if part.arg not in ("key", "default", "reverse", "start")])

    def test_names_and_nodes(self):
        methods = [node.name for _, tree in self.trees() for node in ast.walk(tree) if isinstance(node, ast.FunctionDef)]
        for path, tree in self.trees():
            for node in ast.walk(tree):
                self.assertNotIsInstance(node, NOT_THERE, path)
                if isinstance(node, ast.Name) and node.id in NAMES:
                    self.assertIsInstance(node.ctx, ast.Load)
                    self.assertIn(node.id, BUILTINS)
                if isinstance(node, ast.Call) and isinstance(node.func, ast.Attribute):
                    self.assertIn(node.func.attr, METHODS | set(methods))
                if isinstance(node, ast.Constant) and isinstance(node.value, str):
                    self.assertNotIn("%", node.value)
                    self.assertNotIn(node.value, WORDS)
                if isinstance(node, (ast.FunctionDef, ast.ClassDef, ast.arg)):
                    name = node.arg if isinstance(node, ast.arg) else node.name
                    self.assertFalse(name in NAMES, (path, name))
                    self.assertNotIn(name, WORDS)
                if isinstance(node, ast.Compare) and isinstance(node.ops[0], (ast.Is, ast.IsNot)):
                    self.assertIsInstance(node.comparators[0], ast.Constant)


if __name__ == "__main__":
    unittest.main()

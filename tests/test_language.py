"""The package keeps to the small subset of the language that it is written in, as far as a look at it tells."""

import ast
import builtins
import pathlib
import unittest

PACKAGE = pathlib.Path(__file__).resolve().parent.parent / "slopeyard"
FILES = sorted(PACKAGE.rglob("*"))
FILES = [path for path in FILES if "__pycache__" not in path.parts]

BUILTINS = set("""len range enumerate zip min max sum abs sorted reversed int str bool list tuple dict set frozenset
isinstance ord repr any all divmod iter next super map""".split())
METHODS = set("""append clear copy count endswith extend find get index insert isalnum isalpha isdigit islower isspace
isupper items join keys ljust lower lstrip partition pop remove replace reverse rfind rjust rpartition rsplit rstrip
setdefault split splitlines startswith strip update upper values zfill bit_length isascii removeprefix removesuffix
__init__""".split())
# Functions that a file takes out of a table ahead of the call, under this name.
TAKEN_FROM_TABLES = {"action"}
BARRED = (ast.GeneratorExp, ast.Global, ast.AsyncFunctionDef, ast.Await, ast.Div, ast.With, ast.Set, ast.SetComp,
          ast.Yield, ast.YieldFrom, ast.Match, ast.AnnAssign, ast.Lambda, ast.Nonlocal, ast.NamedExpr)
LIBRARY = {"math": {"gcd", "lcm"}}
NEVER = {"register", "mro", "elements", "open", "input", "law", "version_info", "with_traceback", "add_note"}


def trees():
    for path in FILES:
        yield path.name, path.read_text(encoding="utf-8"), ast.parse(path.read_text(encoding="utf-8"))


class LanguageTest(unittest.TestCase):
    def test_the_folder_holds_plain_files_alone(self):
        for path in FILES:
            self.assertTrue(path.is_file() and path.suffix == ".py", path)
            self.assertRegex(path.name, r"^[a-z_][a-z0-9_]*\.py$")

    def test_sizes_and_signs(self):
        for name, text, tree in trees():
            lines = text.split("\n")
            self.assertLess(len(lines), 400, name)
            self.assertTrue(all(len(line) <= 120 for line in lines), name)
            self.assertTrue(all(sign == "\n" or " " <= sign <= "~" for sign in text), name)
            self.assertNotIn("_wall", text, name)
            for node in ast.walk(tree):
                if isinstance(node, ast.FunctionDef):
                    self.assertLessEqual(node.end_lineno - node.lineno + 1, 40, (name, node.name))

    def test_nothing_barred(self):
        for name, _, tree in trees():
            for node in ast.walk(tree):
                self.assertNotIsInstance(node, BARRED, (name, getattr(node, "lineno", 0)))
                if isinstance(node, ast.Constant):
                    self.assertNotIsInstance(node.value, (float, complex), name)
                    self.assertNotIn("%", node.value if isinstance(node.value, str) else "", name)
                if isinstance(node, ast.FunctionDef):
                    self.assertEqual(node.decorator_list, [], (name, node.name))

    def test_own_errors_alone_are_caught(self):
        own = {node.name for name, _, tree in trees() if name == "errors.py" for node in tree.body
               if isinstance(node, ast.ClassDef)}
        for name, _, tree in trees():
            for node in ast.walk(tree):
                if not isinstance(node, ast.Try):
                    continue
                self.assertEqual((node.orelse, node.finalbody), ([], []), name)
                for handler in node.handlers:
                    caught = handler.type.elts if isinstance(handler.type, ast.Tuple) else [handler.type]
                    for error in caught:
                        self.assertIn(error.id, own, (name, handler.lineno))

    def test_tables_of_a_module_are_read_alone(self):
        for name, _, tree in trees():
            tables = {node.targets[0].id for node in tree.body if isinstance(node, ast.Assign)
                      and isinstance(node.value, (ast.Dict, ast.List))}
            fine = set()
            for node in ast.walk(tree):
                if isinstance(node, ast.Subscript) and isinstance(node.ctx, ast.Load):
                    fine.add(id(node.value))
                elif isinstance(node, (ast.For, ast.comprehension)):
                    fine.add(id(node.iter))
                elif isinstance(node, ast.Compare):
                    fine |= {id(other) for other in node.comparators}
                elif isinstance(node, ast.Call) and getattr(node.func, "id", None) in ("len", "list", "dict", "sorted"):
                    fine |= {id(argument) for argument in node.args}
            for node in ast.walk(tree):
                if isinstance(node, ast.Name) and isinstance(node.ctx, ast.Load) and node.id in tables:
                    self.assertIn(id(node), fine, (name, node.lineno))

    def test_module_level(self):
        allowed = (ast.Expr, ast.ImportFrom, ast.FunctionDef, ast.ClassDef, ast.Assign)
        for name, _, tree in trees():
            bound = []
            for node in tree.body:
                self.assertIsInstance(node, allowed, name)
                if isinstance(node, ast.Expr):
                    self.assertIsInstance(node.value, ast.Constant, name)
                if isinstance(node, ast.Assign):
                    self.assertEqual(len(node.targets), 1, name)
                    bound.append(node.targets[0].id)
                if isinstance(node, ast.ImportFrom):
                    bound += [alias.name for alias in node.names]
                if isinstance(node, (ast.FunctionDef, ast.ClassDef)):
                    bound.append(node.name)
            self.assertEqual(len(bound), len(set(bound)), name)

    def test_imports(self):
        defined = {}
        for name, _, tree in trees():
            names = [node.name for node in tree.body if isinstance(node, (ast.FunctionDef, ast.ClassDef))]
            names += [node.targets[0].id for node in tree.body if isinstance(node, ast.Assign)]
            defined["slopeyard." + name[:-3]] = names
        for name, _, tree in trees():
            for node in ast.walk(tree):
                self.assertNotIsInstance(node, ast.Import, name)
                if isinstance(node, ast.ImportFrom):
                    self.assertEqual(node.level, 0, name)
                    known = LIBRARY.get(node.module) or defined[node.module]
                    for alias in node.names:
                        self.assertIn(alias.name, known, name)
                        self.assertIsNone(alias.asname, name)

    def test_names(self):
        for name, _, tree in trees():
            imported = {alias.name for node in ast.walk(tree) if isinstance(node, ast.ImportFrom)
                        for alias in node.names}
            for node in ast.walk(tree):
                own = None
                if isinstance(node, ast.arg):
                    own = node.arg
                elif isinstance(node, ast.Name) and isinstance(node.ctx, ast.Store):
                    own = node.id
                if own is not None:
                    self.assertFalse(hasattr(builtins, own), (name, own))
                    self.assertNotIn(own, imported, name)
                    self.assertNotIn(own, NEVER, name)

    def test_calls(self):
        for name, _, tree in trees():
            functions = {node.name for _, _, other in trees() for node in ast.walk(other)
                         if isinstance(node, (ast.FunctionDef, ast.ClassDef))}
            for node in ast.walk(tree):
                if not isinstance(node, ast.Call):
                    continue
                if isinstance(node.func, ast.Name):
                    known = BUILTINS | functions | TAKEN_FROM_TABLES | set().union(*LIBRARY.values())
                    self.assertIn(node.func.id, known, (name, node.lineno))
                else:
                    self.assertIsInstance(node.func, ast.Attribute, (name, node.lineno))
                    self.assertIn(node.func.attr, METHODS | functions, (name, node.lineno))


if __name__ == "__main__":
    unittest.main()

"""The rules for the form of the package that can be told from its files one by one."""

import ast
import builtins
import pathlib
import unittest
import warnings

ROOT = pathlib.Path(__file__).resolve().parent.parent / "openlimit"
BUILTINS = set("""
    len range enumerate zip min max sum abs sorted reversed int str bool bytes list tuple dict set frozenset isinstance
    ord repr any all divmod pow getattr hasattr setattr iter next map type super property staticmethod classmethod
    Exception ValueError TypeError KeyError IndexError LookupError ZeroDivisionError ArithmeticError OverflowError
    RuntimeError NotImplementedError AttributeError StopIteration NotImplemented
""".split())
METHODS = set("""
    append clear copy count endswith extend find get index insert isalnum isalpha isdigit islower isspace isupper items
    join keys ljust lower lstrip partition pop remove replace reverse rfind rjust rpartition rsplit rstrip setdefault
    split splitlines startswith strip update upper values zfill bit_length sort add discard
""".split())
LIBRARY = ("heapq", "math", "itertools", "collections")
FORBIDDEN = (
    ast.AsyncFor, ast.AsyncFunctionDef, ast.AsyncWith, ast.Await, ast.Div, ast.Import, ast.MatMult, ast.TryStar,
)
BARRED = set("register mro elements open input law version_info with_traceback add_note".split())


def sources():
    """Return a dict from the paths of the package's files to their texts."""
    return {path: path.read_text(encoding="utf-8") for path in sorted(ROOT.rglob("*.py"))}


def nodes_of(text, kinds):
    return [node for node in ast.walk(ast.parse(text)) if isinstance(node, kinds)]


def bound_names(text):
    """Return all names that the file gives a meaning."""
    names = {node.id for node in nodes_of(text, ast.Name) if not isinstance(node.ctx, ast.Load)}
    names |= {node.arg for node in nodes_of(text, ast.arg)}
    names |= {node.name for node in nodes_of(text, (ast.FunctionDef, ast.ClassDef))}
    names |= {node.asname or node.name for node in nodes_of(text, ast.alias)}
    names |= {node.name for node in nodes_of(text, ast.ExceptHandler) if node.name}
    return names


class FormTests(unittest.TestCase):
    def test_only_python_files(self):
        for path in ROOT.rglob("*"):
            if "__pycache__" not in path.parts:
                self.assertTrue(path.suffix == ".py" if path.is_file() else (path / "__init__.py").is_file(), path)

    def test_sizes_and_characters(self):
        for path, text in sources().items():
            self.assertTrue(all(sign == "\n" or " " <= sign <= "~" for sign in text), path)
            self.assertLessEqual(len(text.split("\n")), 399, path)
            self.assertLessEqual(max(len(line) for line in text.split("\n")), 120, path)
            for node in nodes_of(text, ast.FunctionDef):
                self.assertLessEqual(node.end_lineno - node.lineno + 1, 40, (path, node.name))

    def test_no_warnings(self):
        with warnings.catch_warnings():
            warnings.simplefilter("error")
            for path, text in sources().items():
                compile(text, str(path), "exec")

    def test_imports(self):
        for path, text in sources().items():
            for node in nodes_of(text, ast.ImportFrom):
                self.assertEqual(node.level, 0, path)
                self.assertIn(node.module.split(".")[0], ("openlimit", "__future__") + LIBRARY, path)
                self.assertNotIn("*", [name.name for name in node.names], path)

    def test_statements_and_values(self):
        for path, text in sources().items():
            self.assertEqual(nodes_of(text, FORBIDDEN), [], path)
            for node in nodes_of(text, ast.Constant):
                self.assertNotIsInstance(node.value, (float, complex), path)
            top = (ast.Expr, ast.ImportFrom, ast.FunctionDef, ast.ClassDef, ast.Assign)
            for node in ast.parse(text).body:
                self.assertIsInstance(node, top, path)

    def test_names(self):
        for path, text in sources().items():
            bound = bound_names(text)
            # A doctest that runs before leaves the name _ among the builtins.
            self.assertEqual(bound & set(dir(builtins)) - {"_"}, set(), path)
            self.assertEqual(bound & BARRED, set(), path)
            read = {node.id for node in nodes_of(text, ast.Name)}
            self.assertEqual(read - bound - BUILTINS, set(), path)

    def test_imports_and_classes_keep_their_names(self):
        for path, text in sources().items():
            kept = {node.asname or node.name for node in nodes_of(text, ast.alias)}
            kept |= {node.name for node in nodes_of(text, ast.ClassDef)}
            for function in nodes_of(text, ast.FunctionDef):
                inner = {node.id for node in ast.walk(function)
                         if isinstance(node, ast.Name) and not isinstance(node.ctx, ast.Load)}
                inner |= {node.arg for node in ast.walk(function) if isinstance(node, ast.arg)}
                self.assertEqual(inner & kept, set(), (path, function.name))

    def test_generators_have_names_of_their_own(self):
        names, generators = [], set()
        for text in sources().values():
            for node in nodes_of(text, ast.FunctionDef):
                names.append(node.name)
                if any(isinstance(inner, (ast.Yield, ast.YieldFrom)) for inner in ast.walk(node)):
                    generators.add(node.name)
        for name in generators:
            self.assertEqual(names.count(name), 1, name)

    def test_no_circles_of_imports(self):
        names = {".".join(path.relative_to(ROOT.parent).with_suffix("").parts): text for path, text in sources().items()}
        needed = {name: {node.module for node in nodes_of(text, ast.ImportFrom)} for name, text in names.items()}
        left = dict(needed)
        while left:
            free = [name for name in left if not needed[name] & set(left)]
            self.assertNotEqual(free, [], sorted(left))
            for name in free:
                del left[name]

    def test_names_come_from_where_they_are_defined(self):
        defined = {}
        for path, text in sources().items():
            name = ".".join(path.relative_to(ROOT.parent).with_suffix("").parts)
            top = ast.parse(text).body
            defined[name] = {node.name for node in top if isinstance(node, (ast.FunctionDef, ast.ClassDef))}
            defined[name] |= {node.targets[0].id for node in top if isinstance(node, ast.Assign)}
        for path, text in sources().items():
            for node in nodes_of(text, ast.ImportFrom):
                for alias in node.names:
                    self.assertIn(alias.name, defined[node.module], path)
                    self.assertEqual(text.count(alias.name) > 1, True, (path, alias.name))

    def test_tables_are_only_read(self):
        kept = set()
        for text in sources().values():
            for node in ast.parse(text).body:
                if isinstance(node, ast.Assign) and isinstance(node.value, (ast.Dict, ast.List)):
                    kept.add(node.targets[0].id)
        for path, text in sources().items():
            parents = {child: node for node in ast.walk(ast.parse(text)) for child in ast.iter_child_nodes(node)}
            for node, parent in parents.items():
                if isinstance(node, ast.Name) and node.id in kept and isinstance(node.ctx, ast.Load):
                    is_read = isinstance(parent, ast.Subscript) and parent.value is node
                    is_asked = isinstance(parent, ast.Compare) and parent.comparators[-1] is node
                    self.assertTrue(is_read or is_asked, (path, node.id, node.lineno))

    def test_class_methods_and_properties_have_names_of_their_own(self):
        plain, own = set(), set()
        for text in sources().values():
            for node in nodes_of(text, ast.ClassDef):
                for part in node.body:
                    if isinstance(part, ast.FunctionDef):
                        (own if part.decorator_list else plain).add(part.name)
        self.assertEqual(plain & own, set())
        for text in sources().values():
            for node in nodes_of(text, ast.Attribute):
                if isinstance(node.ctx, ast.Store):
                    self.assertNotIn(node.attr, own)

    def test_methods_of_builtin_values(self):
        own = set()
        for text in sources().values():
            own |= {node.name for node in nodes_of(text, ast.FunctionDef)}
        for path, text in sources().items():
            for node in nodes_of(text, ast.Call):
                if isinstance(node.func, ast.Attribute):
                    self.assertIn(node.func.attr, METHODS | own, path)

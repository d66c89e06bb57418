"""Some of LANGUAGE.md's rules, as far as a look at the package's files tells."""

import ast
import builtins
import pathlib
import unittest

PACKAGE = pathlib.Path(__file__).resolve().parent.parent / "leastpromise"
BUILTINS = set(
    "len range enumerate zip min max sum abs sorted reversed int str bool list tuple dict set isinstance ord repr any all "
    "divmod getattr hasattr setattr Exception ValueError TypeError KeyError IndexError LookupError NotImplemented".split())
METHODS = set(
    "append clear copy count endswith extend find get index insert isalnum isalpha isdigit islower isspace isupper items "
    "join keys ljust lower lstrip partition pop remove replace reverse rfind rjust rpartition rsplit rstrip setdefault "
    "split splitlines startswith strip update upper values zfill bit_length add discard".split())
LIBRARY = {"heapq", "math", "itertools", "collections"}
BARRED = (
    ast.AsyncFunctionDef, ast.Global, ast.Div, ast.AsyncFor, ast.AsyncWith, ast.Await, ast.Yield)
KEYWORDS = {"key", "reverse", "default", "start", "strict"}


def files():
    return sorted(PACKAGE.glob("*.py"))


def trees():
    return {path.stem: ast.parse(path.read_text(encoding="ascii")) for path in files()}


def bound_names(tree):
    """All names that are bound anywhere within."""
    told = set()
    for node in ast.walk(tree):
        if isinstance(node, (ast.FunctionDef, ast.ClassDef)):
            told.add(node.name)
        elif isinstance(node, ast.arg):
            told.add(node.arg)
        elif isinstance(node, ast.Name) and isinstance(node.ctx, ast.Store):
            told.add(node.id)
    return told


def top_names(tree):
    """The names that are bound at module level, imports apart."""
    told = []
    for node in tree.body:
        if isinstance(node, (ast.FunctionDef, ast.ClassDef)):
            told.append(node.name)
        elif isinstance(node, ast.Assign):
            told += [target.id for target in node.targets]
    return told


def imported(tree):
    return [(node.module, alias.name) for node in tree.body if isinstance(node, ast.ImportFrom) for alias in node.names]


def own_methods():
    """The methods of all classes of the package."""
    told = set()
    for tree in trees().values():
        for node in tree.body:
            if isinstance(node, ast.ClassDef):
                told |= {part.name for part in node.body if isinstance(part, ast.FunctionDef)}
    return told - {"__init__"}


class LanguageTest(unittest.TestCase):
    def test_files_and_sizes(self):
        names = {path.name for path in PACKAGE.iterdir() if path.name != "__pycache__"}
        self.assertEqual(names, {path.name for path in files()})
        for path in files():
            text = path.read_text(encoding="ascii")
            self.assertTrue(all(sign == "\n" or " " <= sign <= "~" for sign in text), path)
            self.assertLessEqual(len(text.splitlines()), 399, path)
            self.assertLessEqual(max(map(len, text.splitlines()), default=0), 120, path)
            for node in ast.walk(ast.parse(text)):
                if isinstance(node, ast.FunctionDef):
                    self.assertLessEqual(node.end_lineno - node.lineno + 1, 40, (path, node.name))

    def test_imports(self):
        told = trees()
        ways = {name: set() for name in told}
        for name, tree in told.items():
            for node in ast.walk(tree):
                self.assertNotIsInstance(node, ast.Import, name)
                if isinstance(node, ast.ImportFrom):
                    self.assertIn(node, tree.body)
                    self.assertTrue(all(alias.asname is None and alias.name != "*" for alias in node.names))
            for module, word in imported(tree):
                if module in LIBRARY:
                    continue
                package, own = module.split(".")
                self.assertEqual(package, "leastpromise", name)
                self.assertIn(word, top_names(told[own]), (name, word))
                ways[name].add(own)
        while ways:
            free = [name for name in ways if not ways[name] & set(ways)]
            self.assertTrue(free, ways)
            for name in free:
                del ways[name]

    def test_imports_are_used(self):
        for name, tree in trees().items():
            used = {node.id for node in ast.walk(tree) if isinstance(node, ast.Name)}
            for _, word in imported(tree):
                self.assertIn(word, used, name)

    def test_names(self):
        for name, tree in trees().items():
            taken = {word for _, word in imported(tree)} | {
                node.name for node in tree.body if isinstance(node, ast.ClassDef)}
            top = top_names(tree) + [word for _, word in imported(tree)]
            self.assertEqual(len(top), len(set(top)), name)
            for node in ast.walk(tree):
                if isinstance(node, ast.FunctionDef):
                    inner = bound_names(node) - {node.name}
                    self.assertFalse(inner & taken, (name, node.name))
            bound = bound_names(tree) - {"__init__"}
            self.assertFalse({word for word in bound if hasattr(builtins, word)}, name)
            self.assertTrue(all(word.isascii() and not word.startswith("__") for word in bound), name)

    def test_builtins_and_methods(self):
        own = own_methods()
        self.assertFalse(own & {word for kind in (str, int, list, dict, set, bytes, tuple) for word in dir(kind)})
        for name, tree in trees().items():
            known = bound_names(tree) | {word for _, word in imported(tree)} | BUILTINS | {"__init__"}
            for node in ast.walk(tree):
                if isinstance(node, ast.Name):
                    self.assertIn(node.id, known, name)
                if isinstance(node, ast.Call) and isinstance(node.func, ast.Attribute):
                    self.assertIn(node.func.attr, METHODS | own, name)
                    self.assertFalse(node.keywords, name)
                if isinstance(node, ast.Call) and isinstance(node.func, ast.Name) and node.func.id in BUILTINS:
                    self.assertTrue({word.arg for word in node.keywords} <= KEYWORDS, name)

    def test_what_stands_nowhere(self):
        for name, tree in trees().items():
            for node in ast.walk(tree):
                self.assertNotIsInstance(node, BARRED, name)
                if isinstance(node, (ast.FunctionDef, ast.ClassDef)):
                    self.assertFalse(node.decorator_list, name)
                if isinstance(node, ast.Constant):
                    self.assertNotIsInstance(node.value, (float, complex), name)
                if isinstance(node, ast.Pow):
                    self.fail(name)

    def test_own_errors_alone_are_caught(self):
        own = set(top_names(trees()["errors"]))
        for name, tree in trees().items():
            for node in ast.walk(tree):
                if isinstance(node, ast.Try):
                    self.assertFalse(node.finalbody, name)
                    for handler in node.handlers:
                        self.assertIsInstance(handler.type, ast.Name, name)
                        self.assertIn(handler.type.id, own, name)

    def test_names_of_methods_are_none_of_attributes(self):
        stored = set()
        for tree in trees().values():
            for node in ast.walk(tree):
                if isinstance(node, ast.Attribute) and isinstance(node.ctx, ast.Store):
                    stored.add(node.attr)
        self.assertFalse(stored & own_methods())

    def test_ranges_are_not_kept(self):
        for name, tree in trees().items():
            for node in ast.walk(tree):
                if isinstance(node, ast.Return) or isinstance(node, ast.Assign) and not isinstance(
                        node.targets[0], ast.Name):
                    called = node.value.func if isinstance(node.value, ast.Call) else None
                    if isinstance(called, ast.Name):
                        self.assertNotIn(called.id, ("range", "zip", "enumerate", "reversed"), name)

    def test_module_level_is_plain(self):
        plain = (ast.FunctionDef, ast.ClassDef, ast.ImportFrom, ast.Assign, ast.Expr)
        for name, tree in trees().items():
            for node in tree.body:
                self.assertIsInstance(node, plain, name)
                if isinstance(node, ast.Expr):
                    self.assertIsInstance(node.value, ast.Constant, name)

    def test_what_is_gone_through_is_not_changed(self):
        for name, tree in trees().items():
            for node in ast.walk(tree):
                if isinstance(node, ast.For):
                    gone = {part.id for part in ast.walk(node.iter) if isinstance(part, ast.Name)}
                    for part in ast.walk(ast.Module(node.body, [])):
                        if isinstance(part, ast.Call) and isinstance(part.func, ast.Attribute) and isinstance(
                                part.func.value, ast.Name) and part.func.attr in (
                                "append", "extend", "pop", "insert", "remove", "clear", "setdefault", "update"):
                            self.assertNotIn(part.func.value.id, gone, (name, node.lineno))


if __name__ == "__main__":
    unittest.main()

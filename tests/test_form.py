"""The form of the package: those rules of its part of Python that can be seen file by file."""

import ast
import builtins
import pathlib
import re
import unittest

PACKAGE = pathlib.Path(__file__).resolve().parent.parent / "farcords"

OWN_NAMES = """len range enumerate zip min max sum abs sorted reversed int str bool bytes list tuple dict set frozenset
isinstance ord repr any all divmod Exception ValueError TypeError KeyError IndexError LookupError ZeroDivisionError
ArithmeticError OverflowError RuntimeError NotImplementedError AttributeError StopIteration""".split()

BARRED_NODES = (
    ast.GeneratorExp, ast.NamedExpr, ast.With, ast.AsyncWith, ast.AsyncFor, ast.AsyncFunctionDef, ast.Await, ast.Match,
    ast.Global, ast.Nonlocal, ast.Yield, ast.YieldFrom, ast.Div, ast.MatMult, ast.Import,
)

BARRED_WORDS = """type typing typing_extensions enum Enum IntEnum StrEnum Flag IntFlag Generic Protocol ABC ABCMeta
namedtuple NamedTuple TypedDict TYPE_CHECKING abstractmethod""".split()

OWN_METHODS = """append clear copy count endswith extend find get index insert isalnum isalpha isdigit islower isspace isupper
items join keys ljust lower lstrip partition pop remove replace reverse rfind rjust rpartition rsplit rstrip setdefault
split splitlines startswith strip update upper values zfill bit_length sort add discard""".split()


def files():
    return sorted(path for path in PACKAGE.rglob("*") if path.is_file() and "__pycache__" not in path.parts)


def trees():
    return [(path, ast.parse(path.read_text())) for path in files()]


def top_names(tree):
    """The names that a file's top defines, imports left out."""
    names = []
    for row in tree.body:
        if isinstance(row, (ast.FunctionDef, ast.ClassDef)):
            names.append(row.name)
        if isinstance(row, ast.Assign):
            names += [target.id for target in row.targets]
    return names


def import_rows(tree):
    return [node for node in ast.walk(tree) if isinstance(node, ast.ImportFrom)]


def bound_names(tree):
    """All names that a file gives a meaning."""
    names = set()
    for node in ast.walk(tree):
        if isinstance(node, ast.Name) and not isinstance(node.ctx, ast.Load):
            names.add(node.id)
        if isinstance(node, ast.arg):
            names.add(node.arg)
        if isinstance(node, (ast.FunctionDef, ast.ClassDef)):
            names.add(node.name)
        if isinstance(node, ast.ImportFrom):
            names.update(alias.asname or alias.name for alias in node.names)
    return names


class FormTest(unittest.TestCase):
    def test_files_and_signs(self):
        self.assertTrue(files())
        for path in files():
            text = path.read_text()
            with self.subTest(path.name):
                self.assertRegex(path.name, r"^([a-z][a-z0-9_]*|__init__|__main__)\.py$")
                self.assertTrue(all(sign == "\n" or " " <= sign <= "~" for sign in text))
                self.assertLessEqual(len(text.splitlines()), 400)
                self.assertTrue(all(len(line) <= 120 for line in text.splitlines()))

    def test_defs_are_short(self):
        for path, tree in trees():
            for node in ast.walk(tree):
                if isinstance(node, ast.FunctionDef):
                    with self.subTest(path=path.name, name=node.name):
                        self.assertLessEqual(node.end_lineno - node.lineno + 1, 40)
                        self.assertEqual(node.decorator_list, [])
                        self.assertIsNone(node.args.vararg)
                        self.assertIsNone(node.args.kwarg)

    def test_imports(self):
        tops = {"farcords." + path.stem: top_names(tree) for path, tree in trees()}
        for path, tree in trees():
            for row in import_rows(tree):
                with self.subTest(path=path.name, module=row.module):
                    self.assertIn(row, tree.body)
                    self.assertEqual(row.level, 0)
                    for alias in row.names:
                        self.assertIn(alias.name, tops[row.module])

    def test_no_circle_of_imports(self):
        drawn = {"farcords." + path.stem: {row.module for row in import_rows(tree)} for path, tree in trees()}
        while drawn:
            free = [name for name in drawn if not drawn[name] & set(drawn)]
            self.assertTrue(free, drawn)
            for name in free:
                del drawn[name]

    def test_nodes(self):
        for path, tree in trees():
            for node in ast.walk(tree):
                with self.subTest(path=path.name, line=getattr(node, "lineno", None)):
                    self.assertNotIsInstance(node, BARRED_NODES)
                    if isinstance(node, ast.Constant):
                        self.assertNotIsInstance(node.value, (float, complex))
                    if isinstance(node, (ast.For, ast.While)):
                        self.assertEqual(node.orelse, [])

    def test_names(self):
        for path, tree in trees():
            bound = bound_names(tree)
            with self.subTest(path.name):
                self.assertFalse(bound & set(dir(builtins)))
                self.assertFalse([name for name in bound if name.startswith("_") and not name.endswith("__")])
                asked = {node.id for node in ast.walk(tree) if isinstance(node, ast.Name)}
                self.assertFalse(asked - bound - set(OWN_NAMES))

    def test_no_local_is_called_like_a_name_of_the_top(self):
        for path, tree in trees():
            tops = set(top_names(tree)) | {alias.name for row in import_rows(tree) for alias in row.names}
            for node in ast.walk(tree):
                if isinstance(node, ast.FunctionDef):
                    with self.subTest(path=path.name, name=node.name):
                        self.assertFalse((bound_names(node) - {node.name}) & tops)

    def test_attributes(self):
        given = set()
        for path, tree in trees():
            for node in ast.walk(tree):
                if isinstance(node, ast.ClassDef):
                    given.update(row.name for row in node.body if isinstance(row, ast.FunctionDef))
                if isinstance(node, ast.Attribute) and isinstance(node.ctx, ast.Store):
                    given.add(node.attr)
        for path, tree in trees():
            asked = {node.attr for node in ast.walk(tree) if isinstance(node, ast.Attribute)}
            with self.subTest(path.name):
                self.assertFalse(asked - given - set(OWN_METHODS))

    def test_is_stands_beside_none_and_truths(self):
        for path, tree in trees():
            for node in ast.walk(tree):
                if isinstance(node, ast.Compare) and any(isinstance(sign, (ast.Is, ast.IsNot)) for sign in node.ops):
                    with self.subTest(path=path.name, line=node.lineno):
                        self.assertIsInstance(node.comparators[0], ast.Constant)
                        self.assertIn(repr(node.comparators[0].value), ("None", "True", "False"))

    def test_lists_and_dicts_of_a_top_hold_none(self):
        for path, tree in trees():
            for row in tree.body:
                if isinstance(row, ast.Assign):
                    within = [node for node in ast.walk(row.value) if node is not row.value]
                    with self.subTest(path=path.name, line=row.lineno):
                        self.assertFalse([node for node in within if isinstance(node, (ast.List, ast.Dict))])

    def test_words(self):
        for path in files():
            words = re.findall(r"\w+", path.read_text())
            with self.subTest(path.name):
                self.assertFalse(set(words) & set(BARRED_WORDS))


if __name__ == "__main__":
    unittest.main()

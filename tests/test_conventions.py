"""What promises [1] and [2] and the interface ask of the modules that are there."""

import ast
import inspect
import unittest
from pathlib import Path

import sentparts
from sentparts import errors
from sentparts.tables import Table
from sentparts.ways import Ways

FOLDER = Path(sentparts.__file__).parent
METHODS = {
    Ways: ["__init__", "but", "rounded", "seen", "alike", "ahead", "read", "__eq__", "__str__"],
    Table: ["__init__", "under", "read", "__len__", "__getitem__", "__add__", "__eq__", "__str__"],
}
PARAMETERS = {
    Ways.rounded: ["self", "number"],
    Ways.seen: ["self", "cell"],
    Ways.alike: ["self", "one", "other"],
    Ways.ahead: ["self", "one", "other"],
    Ways.read: ["text"],
    Table: ["columns", "rows"],
    Table.under: ["self", "name"],
    Table.read: ["text"],
}


def parsed(path):
    return ast.parse(path.read_text(encoding="utf-8"))


class Interface(unittest.TestCase):
    def test_methods_are_defined_in_their_class(self):
        for owner, names in METHODS.items():
            for name in names:
                with self.subTest(owner=owner, name=name):
                    self.assertIn(name, vars(owner))

    def test_classes_are_defined_in_their_file(self):
        self.assertEqual(Ways.__module__, "sentparts.ways")
        self.assertEqual(Table.__module__, "sentparts.tables")

    def test_read_is_a_class_method(self):
        for owner in METHODS:
            self.assertIsInstance(vars(owner)["read"], classmethod)

    def test_parameter_names(self):
        for function, names in PARAMETERS.items():
            with self.subTest(function):
                self.assertEqual(list(inspect.signature(function).parameters), names)

    def test_the_package_itself_is_empty_but_for_a_docstring(self):
        tree = parsed(FOLDER / "__init__.py")
        self.assertEqual(len(tree.body), 1)
        self.assertIsNotNone(ast.get_docstring(tree))


class Objects(unittest.TestCase):
    def test_not_iterable(self):
        for thing in (Ways(), Table([("a", "text")]), Table([("a", "text")], [["x"]]), errors.Mismatch()):
            with self.assertRaises(TypeError):
                iter(thing)

    def test_calls_change_nothing(self):
        ways = Ways(case="folded", blanks="dropped", empty="lacks", unit=10)
        before = dict(vars(ways))
        calls = [
            lambda: ways.rounded(15), lambda: ways.seen("X "), lambda: ways.alike("x", "X"), lambda: str(ways),
            lambda: ways.ahead("a", "B"), lambda: ways.but(last=True), lambda: ways == Ways(),
        ]
        first = [call() for call in calls]
        self.assertEqual([call() for call in reversed(calls)], list(reversed(first)))
        self.assertEqual(vars(ways), before)

    def test_table_calls_change_nothing(self):
        table = Table([("a", "text")], [["x"], ["y"]])
        before = dict(vars(table))
        calls = [
            lambda: table.under("a"), lambda: len(table), lambda: table[1], lambda: table + table, lambda: str(table),
            lambda: table == table + table, lambda: Table.read(str(table)),
        ]
        first = [call() for call in calls]
        self.assertEqual([call() for call in reversed(calls)], list(reversed(first)))
        self.assertEqual(vars(table), before)

    def test_errors_change_nothing(self):
        table, ways = Table([("a", "text")], [["x"]]), Ways(unit=5)
        wrong = [
            lambda: table + Table([("b", "text")]), lambda: table[1], lambda: table.under("b"),
            lambda: ways.but(unit=3), lambda: Table(table.columns, [table.rows]),
        ]
        for call in wrong:
            with self.assertRaises((errors.PartError, LookupError)):
                call()
        self.assertEqual(table, Table([("a", "text")], [["x"]]))
        self.assertEqual(ways, Ways(unit=5))


class Form(unittest.TestCase):
    """What LANGUAGE.md says of sizes, characters and imports."""

    def test_the_folder_holds_python_files_alone(self):
        kept = [path.name for path in FOLDER.iterdir() if path.name != "__pycache__"]
        self.assertEqual([name for name in kept if not name.endswith(".py")], [])

    def test_sizes_and_characters(self):
        for path in FOLDER.glob("*.py"):
            text = path.read_text(encoding="utf-8")
            with self.subTest(path.name):
                self.assertTrue(all(sign == "\n" or " " <= sign <= "~" for sign in text))
                self.assertLessEqual(len(text.splitlines()), 399)
                self.assertLessEqual(max(len(line) for line in text.splitlines()), 120)
                for node in ast.walk(parsed(path)):
                    if isinstance(node, ast.FunctionDef):
                        self.assertLessEqual(node.end_lineno - node.lineno + 1, 40, node.name)

    def test_imports_are_from_the_package_alone(self):
        for path in FOLDER.glob("*.py"):
            for node in ast.walk(parsed(path)):
                with self.subTest(path.name):
                    self.assertNotIsInstance(node, ast.Import)
                    if isinstance(node, ast.ImportFrom):
                        self.assertEqual(node.module.split(".")[0], "sentparts")


if __name__ == "__main__":
    unittest.main()

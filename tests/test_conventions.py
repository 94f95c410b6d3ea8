"""What promises [1] and [2] and the interface ask of the modules that are there."""

import ast
import inspect
import unittest
from pathlib import Path

import sentparts
from sentparts import conditions, errors, steps
from sentparts.conditions import And, Below, Is, Lacks, Not, Or, Test, read_test
from sentparts.covers import cover, is_exact, keeps, lost, mend
from sentparts.deciding import alike, cuts, matters, needless, parting, same
from sentparts.desk import Desk
from sentparts.plans import Plan
from sentparts.questions import Question
from sentparts.sessions import Session
from sentparts.steps import Fill, First, Lower, Order, Pick, Round, Step, Tally, Trim, Unlike, Where
from sentparts.tables import Table
from sentparts.ways import Ways
from tests.values import some_questions, some_steps, some_tests

FOLDER = Path(sentparts.__file__).parent
ONE = [("a", "text")]
STEPS = {
    Where: ["test"], Pick: ["columns"], Lower: ["column"], Trim: ["column"], Round: ["column"],
    Fill: ["column", "cell"],
    Unlike: ["columns"], Order: ["by"], First: ["count"], Tally: ["columns", "name"],
}
TESTS = {
    Is: ["column", "cell"], Below: ["column", "cell"], Lacks: ["column"], Not: ["test"], And: ["tests"], Or: ["tests"],
}
METHODS = {
    Ways: ["__init__", "but", "rounded", "seen", "alike", "ahead", "read", "__eq__", "__str__"],
    Table: ["__init__", "under", "read", "__len__", "__getitem__", "__add__", "__eq__", "__str__"],
    Test: ["truth", "__and__", "__or__", "__invert__", "__eq__", "__str__"],
    **{each: ["__init__"] for each in TESTS},
    Step: ["__eq__", "__str__"],
    **{each: ["__init__", "__eq__", "__str__"] for each in STEPS},
    Question: [
        "__init__", "run", "without", "upto", "behind", "read", "__len__", "__getitem__", "__rshift__", "__eq__",
        "__str__",
    ],
    Plan: ["__init__", "run", "cut", "__len__", "__eq__", "__str__"],
    Session: [
        "__init__", "put", "take", "lay", "ask", "split", "answer", "undo", "trial", "within", "table", "__len__",
    ],
    Desk: ["__init__", "say", "__len__"],
}
CLASS_METHODS = [(Ways, "read"), (Table, "read"), (Question, "read"), (Plan, "cut")]
MODULES = {
    Ways: "ways", Table: "tables", Test: "conditions", Step: "steps", Question: "questions", Plan: "plans",
    read_test: "conditions", **{each: "conditions" for each in TESTS}, **{each: "steps" for each in STEPS},
    **{each: "deciding" for each in (same, parting, cuts, alike, needless, matters)},
    **{each: "covers" for each in (lost, keeps, cover, is_exact, mend)},
    Session: "sessions", Desk: "desk",
}
PARAMETERS = {
    Ways.rounded: ["self", "number"],
    Ways.seen: ["self", "cell"],
    Ways.alike: ["self", "one", "other"],
    Ways.ahead: ["self", "one", "other"],
    Ways.read: ["text"],
    Table: ["columns", "rows"],
    Table.under: ["self", "name"],
    Table.read: ["text"],
    Test.truth: ["self", "cells", "ways"],
    **TESTS,
    read_test: ["text"],
    **STEPS,
    Question: ["columns", "steps"],
    Question.run: ["self", "table", "ways"],
    Question.without: ["self", "at"],
    Question.upto: ["self", "at"],
    Question.behind: ["self", "at"],
    Question.read: ["columns", "text"],
    Plan: ["sent", "rest"],
    Plan.run: ["self", "table", "far", "home"],
    Plan.cut: ["question", "at"],
    same: ["p", "q", "far", "home"],
    parting: ["p", "q", "far", "home"],
    cuts: ["question", "far", "home"],
    alike: ["p", "q", "ways"],
    needless: ["question", "ways"],
    matters: ["question", "home"],
    lost: ["test", "ways", "other", "beside", "columns"],
    keeps: ["test", "ways", "other", "beside", "columns"],
    cover: ["test", "home", "far", "columns"],
    is_exact: ["test", "home", "far", "columns"],
    mend: ["question", "far", "home"],
    Session: ["table", "far", "home"],
    Session.put: ["self", "row"],
    Session.take: ["self", "at"],
    Session.lay: ["self", "table"],
    Session.ask: ["self", "question"],
    Session.split: ["self", "question", "at"],
    Session.answer: ["self", "plan"],
    Session.undo: ["self"],
    Session.trial: ["self"],
    Session.within: ["self", "work"],
    Desk: [],
    Desk.say: ["self", "command"],
}


def parsed(path):
    return ast.parse(path.read_text(encoding="utf-8"))


def is_plainly_a_number(node):
    """Whether a node is a literal, `int(..)` or `len(..)`, as LANGUAGE.md asks of what stands ahead of a `%`."""
    if isinstance(node, ast.Call) and isinstance(node.func, ast.Name):
        return node.func.id in ("int", "len")
    return isinstance(node, ast.Constant)


class Interface(unittest.TestCase):
    def test_methods_are_defined_in_their_class(self):
        for owner, names in METHODS.items():
            for name in names:
                with self.subTest(owner=owner, name=name):
                    self.assertIn(name, vars(owner))

    def test_classes_and_functions_are_defined_in_their_file(self):
        for thing, module in MODULES.items():
            self.assertEqual(thing.__module__, f"sentparts.{module}")

    def test_class_methods(self):
        for owner, name in CLASS_METHODS:
            self.assertIsInstance(vars(owner)[name], classmethod)

    def test_all_tests_and_steps_are_there(self):
        for module, base, classes in [(conditions, Test, TESTS), (steps, Step, STEPS)]:
            found = [each for each in vars(module).values() if isinstance(each, type) and base in each.__bases__]
            self.assertEqual(found, list(classes))

    def test_attributes_are_set_on_each_object(self):
        for test in some_tests():
            self.assertLessEqual({*TESTS[test.__class__], "columns", "atoms"}, set(vars(test)))
        for step in some_steps():
            self.assertLessEqual({*STEPS[step.__class__]}, set(vars(step)))
        self.assertLessEqual({"columns", "steps", "ends"}, set(vars(Question(ONE))))
        self.assertLessEqual({"sent", "rest", "whole"}, set(vars(Plan(Question(ONE), Question(ONE)))))

        session = Session(Table(ONE), Ways(), Ways())
        self.assertLessEqual({"far", "home", "moved"}, set(vars(session)))
        self.assertIsInstance(vars(Session)["table"], property)
        self.assertIsNotNone(vars(Session)["table"].fset)

    def test_parameter_names(self):
        for function, names in PARAMETERS.items():
            with self.subTest(function):
                self.assertEqual(list(inspect.signature(function).parameters), names)

    def test_the_package_itself_is_empty_but_for_a_docstring(self):
        tree = parsed(FOLDER / "__init__.py")
        self.assertEqual(len(tree.body), 1)
        self.assertIsNotNone(ast.get_docstring(tree))


class Objects(unittest.TestCase):
    def test_not_iterable(self):
        things = [Ways(), Table(ONE), Table(ONE, [["x"]]), errors.Mismatch()]
        things.extend([Session(Table(ONE), Ways(), Ways()), Desk()])
        for thing in [*things, *some_tests(), *some_steps(), *some_questions()]:
            with self.assertRaises(TypeError):
                iter(thing)
            with self.assertRaises(TypeError):
                list(thing)

    def test_calls_change_nothing(self):
        ways = Ways(case="folded", blanks="dropped", empty="lacks", unit=10)
        before = dict(vars(ways))
        calls = [
            lambda: ways.rounded(15), lambda: ways.seen("X "), lambda: ways.alike("x", "X"), lambda: str(ways),
            lambda: ways.ahead("a", "B"), lambda: ways.but(last=True), lambda: ways == Ways(),
        ]
        first = [call() for call in calls]
        self.assertEqual([call() for call in reversed(calls)], list(reversed(first)))
        self.assertEqual(vars(ways), before)

    def test_table_calls_change_nothing(self):
        table = Table([("a", "text")], [["x"], ["y"]])
        before = dict(vars(table))
        calls = [
            lambda: table.under("a"), lambda: len(table), lambda: table[1], lambda: table + table, lambda: str(table),
            lambda: table == table + table, lambda: Table.read(str(table)),
        ]
        first = [call() for call in calls]
        self.assertEqual([call() for call in reversed(calls)], list(reversed(first)))
        self.assertEqual(vars(table), before)

    def test_calls_of_tests_steps_questions_and_plans_change_nothing(self):
        test = Is("a", "x") & ~Lacks("a")
        question = Question(ONE, [Where(test), Lower("a"), Order([("a", "down")]), First(2)])
        plan, table = Plan.cut(question, 2), Table(ONE, [["x"], ["X"], [None], ["x"]])
        cells, ways = {"a": "x"}, Ways(case="folded")
        objects = [test, *question.steps, question, plan, table, ways]
        before = [dict(vars(each)) for each in objects]
        calls = [
            lambda: test.truth(cells, ways), lambda: str(test), lambda: test & test, lambda: test | test, lambda: ~test,
            lambda: test == ~test, lambda: read_test(str(test)), lambda: question.run(table, ways),
            lambda: len(question),
            lambda: question[1], lambda: question.without(0), lambda: question.upto(2), lambda: question.behind(1),
            lambda: question >> Question(ONE), lambda: str(question), lambda: Question.read(ONE, str(question)),
            lambda: Plan.cut(question, 1), lambda: plan.run(table, ways, Ways()), lambda: len(plan), lambda: str(plan),
            lambda: plan == Plan.cut(question, 1), lambda: question == question.upto(3),
            lambda: question[0] == question[1],
        ]
        first = [call() for call in calls]
        self.assertEqual([call() for call in reversed(calls)], list(reversed(first)))
        self.assertEqual([dict(vars(each)) for each in objects], before)
        self.assertEqual(cells, {"a": "x"})

    def test_decisions_and_covers_change_nothing(self):
        question = Question(ONE, [Where(Is("a", "x") | Lacks("a")), Lower("a"), Order([("a", "down")]), First(2)])
        p, q, test, ways = Plan.cut(question, 4), Plan.cut(question, 0), question[0].test, Ways(case="folded")
        objects = [question, *question.steps, test, p, q, p.sent, q.rest, ways]
        columns = [("a", "text"), ("n", "number")]
        before = [dict(vars(each)) for each in objects]
        calls = [
            lambda: same(p, q, ways, Ways()), lambda: parting(p, q, ways, Ways()), lambda: cuts(question, ways, Ways()),
            lambda: alike(question, question.without(1), ways), lambda: needless(question, ways),
            lambda: matters(question, ways), lambda: lost(test, ways, ~test, Ways(), columns),
            lambda: keeps(test, ways, test, Ways(), columns), lambda: cover(test, ways, Ways(), columns),
            lambda: is_exact(test, ways, Ways(), columns), lambda: mend(question, ways, Ways()),
        ]
        first = [call() for call in calls]
        self.assertEqual([call() for call in reversed(calls)], list(reversed(first)))
        self.assertEqual([dict(vars(each)) for each in objects], before)
        self.assertEqual(columns, [("a", "text"), ("n", "number")])
        kinds = [bool, Table, tuple, bool, tuple, tuple, tuple, bool, Test, bool, Plan]
        for result, kind in zip(first, kinds):
            self.assertIsInstance(result, kind)

    def test_sessions_and_desks_change_no_arguments(self):
        table, question = Table(ONE, [["x"], ["X"]]), Question(ONE, [Lower("a"), First(1)])
        ways, plan, row = Ways(case="folded"), Plan.cut(question, 1), ["y"]
        objects = [table, question, ways, plan]
        before = [dict(vars(each)) for each in objects]
        session = Session(table, ways, Ways())
        session.put(row)
        session.take(0)
        session.table = table
        session.ask(question)
        session.split(question, 1)
        session.answer(plan)
        session.within(lambda held: held.take(0))
        session.undo()
        self.assertEqual([dict(vars(each)) for each in objects], before)
        self.assertEqual(row, ["y"])

    def test_errors_of_questions_and_plans_change_nothing(self):
        question = Question(ONE, [Lower("a"), First(1)])
        plan, test = Plan.cut(question, 1), Is("a", "x")
        wrong = [
            lambda: question[2], lambda: question.without(2), lambda: question.upto(3), lambda: question.behind(-1),
            lambda: question >> question, lambda: question.run(Table([("b", "text")]), Ways()),
            lambda: Plan.cut(question, 3),
            lambda: plan.run(Table([("b", "text")]), Ways(), Ways()), lambda: Plan(question, question),
            lambda: test.truth({}, Ways()),
            lambda: Question(ONE, [*question.steps, First(1)]), lambda: And([test, None]),
        ]
        for call in wrong:
            with self.assertRaises((errors.PartError, LookupError)):
                call()
        self.assertEqual(question, Question(ONE, [Lower("a"), First(1)]))
        self.assertEqual(plan, Plan(Question(ONE, [Lower("a")]), Question(ONE, [First(1)])))
        self.assertEqual(test, Is("a", "x"))

    def test_errors_change_nothing(self):
        table, ways = Table([("a", "text")], [["x"]]), Ways(unit=5)
        wrong = [
            lambda: table + Table([("b", "text")]), lambda: table[1], lambda: table.under("b"),
            lambda: ways.but(unit=3), lambda: Table(table.columns, [table.rows]),
        ]
        for call in wrong:
            with self.assertRaises((errors.PartError, LookupError)):
                call()
        self.assertEqual(table, Table([("a", "text")], [["x"]]))
        self.assertEqual(ways, Ways(unit=5))


class Form(unittest.TestCase):
    """What LANGUAGE.md says of sizes, characters and imports."""

    def test_the_folder_holds_python_files_alone(self):
        kept = [path.name for path in FOLDER.iterdir() if path.name != "__pycache__"]
        self.assertEqual([name for name in kept if not name.endswith(".py")], [])

    def test_sizes_and_characters(self):
        for path in FOLDER.glob("*.py"):
            text = path.read_text(encoding="utf-8")
            with self.subTest(path.name):
                self.assertTrue(all(sign == "\n" or " " <= sign <= "~" for sign in text))
                self.assertLessEqual(len(text.splitlines()), 399)
                self.assertLessEqual(max(len(line) for line in text.splitlines()), 120)
                for node in ast.walk(parsed(path)):
                    if isinstance(node, ast.FunctionDef):
                        self.assertLessEqual(node.end_lineno - node.lineno + 1, 40, node.name)

    def test_imports_are_from_the_package_alone(self):
        for path in FOLDER.glob("*.py"):
            for node in ast.walk(parsed(path)):
                with self.subTest(path.name):
                    self.assertNotIsInstance(node, ast.Import)
                    if isinstance(node, ast.ImportFrom):
                        self.assertEqual(node.module.split(".")[0], "sentparts")

    def test_a_rest_is_taken_of_what_plainly_is_a_number(self):
        for path in FOLDER.glob("*.py"):
            for node in ast.walk(parsed(path)):
                if isinstance(node, (ast.BinOp, ast.AugAssign)) and isinstance(node.op, ast.Mod):
                    with self.subTest(path.name, line=node.lineno):
                        self.assertIsInstance(node, ast.BinOp)
                        self.assertTrue(is_plainly_a_number(node.left))


if __name__ == "__main__":
    unittest.main()

"""Promise [29]: sessions."""

import unittest

from sentparts.errors import InvalidTable, Mismatch, NoRow, NoStep
from sentparts.plans import Plan
from sentparts.questions import Question
from sentparts.sessions import Session
from sentparts.tables import Table
from sentparts.ways import Ways
from tests.values import any_values

AN = (("a", "text"), ("n", "number"))
HOME, FAR = Ways(), Ways(case="folded", unit=10)
ROWS = (("x", 1), ("X", 5), (None, 12), ("y", None), ("x", 1))
QUESTION = Question.read(AN, 'where n below 10\nwhere a is "x"\nround n\npick a')


def a_session(rows=ROWS):
    return Session(Table(AN, rows), FAR, HOME)


def state(session):
    return session.table, len(session), session.moved, session.far, session.home


class Deeds(unittest.TestCase):
    def test_a_new_session(self):
        table = Table(AN, ROWS)
        session = Session(home=HOME, far=FAR, table=table)
        self.assertEqual(session.table, table)
        self.assertIs(session.far, FAR)
        self.assertIs(session.home, HOME)
        self.assertEqual((session.moved, len(session)), (0, 0))
        self.assertFalse(session.undo())

    def test_put(self):
        session = a_session()
        self.assertIsNone(session.put(["z", 3]))
        self.assertIsNone(session.put(row=(None, None)))
        self.assertEqual(session.table, Table(AN, [*ROWS, ("z", 3), (None, None)]))
        self.assertEqual(len(session), 2)
        row = ["w", 4]
        session.put(row)
        row[0] = "v"
        self.assertEqual(session.table.rows[-1], ("w", 4))

    def test_put_of_what_is_no_row(self):
        session = a_session()
        session.put(("z", 3))
        before = state(session)
        for row in any_values():
            if isinstance(row, (list, tuple)) and len(row) == 2 and row[0].__class__ is str:
                continue
            with self.assertRaises(InvalidTable) as caught:
                session.put(row)
            is_row = isinstance(row, (list, tuple)) and len(row) == 2
            self.assertEqual(caught.exception.word, "cell" if is_row else "row")
        for row, word in [
            ([], "row"), (["x"], "row"), (["x", 1, 2], "row"), ("x1", "row"), ({"a": 1}, "row"), (None, "row"),
            ([1, "x"], "cell"), (["x", "1"], "cell"), (["x", True], "cell"), ([1, 1], "cell"), (["1", 1], "cell"),
            (["x", 10**6 + 1], "cell"), ([["x"], 1], "cell"), (("x" * 11, 1), "cell"), (("x", (1,)), "cell"),
        ]:
            with self.assertRaises(InvalidTable) as caught:
                session.put(row)
            self.assertEqual(caught.exception.word, word)
        self.assertEqual(state(session), before)
        self.assertTrue(session.undo())
        self.assertEqual(session.table, Table(AN, ROWS))

    def test_take(self):
        session = a_session()
        self.assertEqual(session.take(1), ("X", 5))
        self.assertEqual(session.table, Table(AN, [ROWS[0], *ROWS[2:]]))
        self.assertEqual(session.take(at=3), ("x", 1))
        self.assertEqual(session.take(0), ("x", 1))
        self.assertEqual(session.table, Table(AN, ROWS[2:4]))
        self.assertEqual(len(session), 3)
        self.assertEqual((session.take(1), session.take(0), session.table), (ROWS[3], ROWS[2], Table(AN)))

    def test_take_of_no_row(self):
        for rows in (ROWS, ()):
            session = a_session(rows)
            for at in (-1, -len(rows), len(rows), len(rows) + 1, 10**20, -10**20):
                if 0 <= at < len(rows):
                    continue
                with self.assertRaises(NoRow) as caught:
                    session.take(at)
                self.assertEqual(caught.exception.at, at)
            self.assertEqual(state(session), (Table(AN, rows), 0, 0, FAR, HOME))

    def test_setting_the_table(self):
        session = a_session()
        other = Table(AN, [("w", 7)])
        session.table = other
        self.assertEqual((session.table, len(session)), (other, 1))
        session.table = Table(AN, [("w", 7)])
        self.assertEqual((session.table, len(session)), (other, 2))
        self.assertIsNone(session.lay(Table(AN)))
        self.assertIsNone(session.lay(table=Table(AN)))
        self.assertEqual((session.table, len(session)), (Table(AN), 4))
        for left, table in [(3, Table(AN)), (2, other), (1, other), (0, Table(AN, ROWS))]:
            self.assertTrue(session.undo())
            self.assertEqual((session.table, len(session)), (table, left))

    def test_a_table_with_other_columns(self):
        session = a_session()
        session.put(("z", 1))
        before = state(session)
        for columns in [AN[:1], AN[::-1], (("a", "text"), ("m", "number")), (("a", "text"), ("n", "text"))]:
            with self.assertRaises(Mismatch):
                session.table = Table(columns)
            with self.assertRaises(Mismatch):
                session.lay(Table(columns))
        self.assertEqual(state(session), before)

    def test_undo(self):
        session = a_session()
        tables = [session.table]
        deeds = [
            lambda: session.put(("z", 3)), lambda: session.take(0), lambda: session.lay(Table(AN, ROWS[:2])),
            lambda: session.take(1), lambda: session.put((None, None)), lambda: session.lay(session.table),
        ]
        for deed in deeds:
            deed()
            tables.append(session.table)
            self.assertEqual(len(session), len(tables) - 1)
        for many in range(len(deeds), 0, -1):
            self.assertEqual((session.table, len(session)), (tables[many], many))
            self.assertIs(session.undo(), True)
        self.assertEqual((session.table, len(session)), (tables[0], 0))
        self.assertIs(session.undo(), False)
        self.assertIs(session.undo(), False)
        self.assertEqual(state(session), (Table(AN, ROWS), 0, 0, FAR, HOME))
        session.put(("q", 1))
        self.assertEqual((len(session), session.undo(), session.undo()), (1, True, False))

    def test_two_sessions_with_one_table(self):
        table = Table(AN, ROWS)
        one, other = Session(table, FAR, HOME), Session(table, HOME, FAR)
        one.put(("z", 3))
        one.ask(QUESTION)
        self.assertEqual(state(other), (Table(AN, ROWS), 0, 0, HOME, FAR))
        self.assertEqual(table, Table(AN, ROWS))

    def test_it_is_not_iterable(self):
        with self.assertRaises(TypeError):
            iter(a_session())


class Asking(unittest.TestCase):
    def test_ask(self):
        session = a_session()
        self.assertEqual(session.ask(QUESTION), QUESTION.run(Table(AN, ROWS), HOME))
        self.assertEqual(session.moved, 5)
        self.assertEqual(session.ask(question=Question(AN)), Table(AN, ROWS))
        self.assertEqual((session.moved, len(session)), (10, 0))
        session.put(("z", 3))
        self.assertEqual(len(session.ask(Question.read(AN, "first 1"))), 1)
        self.assertEqual(session.moved, 16)

    def test_split(self):
        handed = [5, 2, 2, 2, 2]
        for at, many in enumerate(handed):
            session = a_session([("x", 1), ("X", 5), (None, 12), ("y", None), ("q", 17)])
            answer = session.split(QUESTION, at)
            self.assertEqual(answer, Plan.cut(QUESTION, at).run(session.table, FAR, HOME))
            self.assertEqual((session.moved, len(session)), (many, 0))
        session = a_session()
        self.assertEqual(session.split(at=2, question=QUESTION).rows, (("x",), ("X",), ("x",)))
        self.assertEqual(session.moved, 3)
        self.assertEqual(session.split(QUESTION, 1).rows, (("x",), ("x",)))
        self.assertEqual(session.moved, 6)

    def test_answer(self):
        session = a_session()
        for sent, rest, many in [
            ("first 2", "pick a", 2), ("", "first 1", 5), ('where a is "x"\nunlike a', "", 1), ("tally a as c", "", 3),
            ("where a lacks and not a lacks", "", 0), ("pick n", "order n up", 5),
        ]:
            first = Question.read(AN, sent)
            plan = Plan(first, Question.read(first.ends, rest))
            before = session.moved
            self.assertEqual(session.answer(plan=plan), plan.run(session.table, FAR, HOME))
            self.assertEqual(session.moved - before, many)

    def test_the_table_now_is_asked(self):
        session = a_session()
        session.take(0)
        session.put(("x", 2))
        question = Question.read(AN, 'where a is "x"')
        self.assertEqual(session.ask(question).rows, (("x", 1), ("x", 2)))
        session.undo()
        self.assertEqual(session.split(question, 1).rows, (("X", 5), ("x", 1)))
        self.assertEqual(session.moved, 7)

    def test_errors_change_nothing(self):
        session = a_session()
        session.put(("z", 1))
        session.ask(QUESTION)
        before = state(session)
        other = Question.read(AN[:1], "lower a")
        for at in (-1, 5, 10**9):
            with self.assertRaises(NoStep) as caught:
                session.split(QUESTION, at)
            self.assertEqual(caught.exception.at, at)
        with self.assertRaises(NoStep):
            session.split(other, 2)
        for call in [
            lambda: session.ask(other), lambda: session.split(other, 0), lambda: session.split(other, 1),
            lambda: session.answer(Plan.cut(other, 0)), lambda: session.answer(Plan.cut(other, 1)),
            lambda: session.ask(Question(AN[::-1])), lambda: session.lay(Table(AN[:1])),
        ]:
            with self.assertRaises(Mismatch):
                call()
        with self.assertRaises(NoRow):
            session.take(6)
        with self.assertRaises(InvalidTable):
            session.put(("z",))
        self.assertEqual(state(session), before)

    def test_moved_rows_stay_counted(self):
        session = a_session()
        session.ask(QUESTION)
        session.put(("z", 3))
        session.split(QUESTION, 1)
        moved = session.moved
        while session.undo():
            self.assertEqual(session.moved, moved)
        with session.trial():
            session.ask(QUESTION)
            session.put(("z", 3))
            session.ask(QUESTION)
        self.assertEqual(session.moved, moved + 11)

    def test_the_same_call_again(self):
        session = a_session()
        first = session.split(QUESTION, 2)
        session.ask(QUESTION)
        with session.trial():
            session.take(0)
            session.split(QUESTION, 2)
        session.put(("x", 1))
        session.undo()
        self.assertEqual(session.split(QUESTION, 2), first)


class Trials(unittest.TestCase):
    def test_left_in_order(self):
        session = a_session()
        session.put(("z", 3))
        before = state(session)
        with session.trial() as held:
            self.assertIs(held, session)
            self.assertEqual(state(session), before)
            session.take(0)
            session.lay(Table(AN))
            self.assertEqual((session.table, len(session)), (Table(AN), 3))
        self.assertEqual(state(session), before)
        self.assertTrue(session.undo())
        self.assertEqual(session.table, Table(AN, ROWS))

    def test_deeds_that_are_taken_back_within(self):
        session = a_session()
        session.put(("z", 3))
        session.take(0)
        before = state(session)
        with session.trial():
            while session.undo():
                pass
            session.put(("w", 1))
            self.assertEqual(len(session), 1)
        self.assertEqual(state(session), before)
        self.assertTrue(session.undo())
        self.assertEqual(session.table, Table(AN, [*ROWS, ("z", 3)]))
        self.assertTrue(session.undo())
        self.assertEqual(session.table, Table(AN, ROWS))

    def test_left_by_an_error(self):
        session = a_session()
        session.put(("z", 3))
        before = session.table, len(session)
        for error in (NoRow, Mismatch, ZeroDivisionError, KeyboardInterrupt):
            with self.assertRaises(error):
                with session.trial():
                    session.take(0)
                    session.ask(QUESTION)
                    if error is NoRow:
                        session.take(99)
                    raise error(*[1] if error is NoRow else [])
            self.assertEqual((session.table, len(session)), before)
        self.assertEqual(session.moved, 4 * 5)

    def test_left_by_a_return(self):
        session = a_session()

        def work():
            with session.trial():
                session.take(0)
                return len(session.table)

        self.assertEqual((work(), len(session.table), len(session)), (4, 5, 0))

    def test_one_in_another(self):
        session = a_session()
        with session.trial():
            session.put(("z", 3))
            outer = session.table, len(session)
            with session.trial() as held:
                self.assertIs(held, session)
                session.take(0)
                session.undo()
                session.undo()
                session.put(("w", 1))
            self.assertEqual((session.table, len(session)), outer)
            with self.assertRaises(Mismatch):
                with session.trial():
                    session.take(0)
                    session.lay(Table(AN[:1]))
            self.assertEqual((session.table, len(session)), outer)
        self.assertEqual((session.table, len(session)), (Table(AN, ROWS), 0))

    def test_as_it_is_when_it_is_entered(self):
        session = a_session()
        one, other = session.trial(), session.trial()
        self.assertIsNot(one, other)
        session.put(("z", 3))
        with one:
            session.take(0)
        self.assertEqual((session.table, len(session)), (Table(AN, [*ROWS, ("z", 3)]), 1))
        session.undo()
        session.take(0)
        with other:
            session.undo()
        self.assertEqual((session.table, len(session)), (Table(AN, ROWS[1:]), 1))

    def test_within(self):
        session = a_session()

        def work(held):
            self.assertIs(held, session)
            held.put(("z", 3))
            return held.ask(Question.read(AN, 'where a is "z"'))

        self.assertEqual(session.within(work), Table(AN, [("z", 3)]))
        self.assertEqual(state(session), (Table(AN, ROWS), 0, 6, FAR, HOME))
        self.assertIsNone(session.within(work=lambda held: None))
        self.assertEqual(session.within(lambda held: (held.take(0), len(held))), (("x", 1), 1))
        self.assertEqual(session.within(lambda held: held.within(lambda again: again.take(4))), ("x", 1))
        self.assertEqual(session.within(len), 0)

    def test_within_with_an_error(self):
        session = a_session()
        session.put(("z", 3))
        before = session.table, len(session)

        def work(held):
            held.take(0)
            held.ask(QUESTION)
            return held.take(77)

        with self.assertRaises(NoRow) as caught:
            session.within(work)
        self.assertEqual(caught.exception.at, 77)
        self.assertEqual((session.table, len(session), session.moved), (*before, 5))


if __name__ == "__main__":
    unittest.main()

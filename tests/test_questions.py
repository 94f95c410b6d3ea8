"""Promises [17] to [19]: questions, how they are run, and their texts."""

import unittest
from itertools import product

from sentparts.conditions import Below, Is, Lacks
from sentparts.errors import InvalidQuestion, InvalidText, Mismatch, NoStep
from sentparts.questions import Question
from sentparts.steps import Fill, First, Lower, Order, Pick, Round, Step, Tally, Trim, Unlike, Where
from sentparts.tables import Table
from sentparts.ways import Ways
from tests.values import any_values, is_among, nested, some_steps

BOTH = (("a", "text"), ("n", "number"))
FOUR = (("a", "text"), ("b", "text"), ("n", "number"), ("m", "number"))
WRONG_PLACES = (-1, -2, -8, 10**30, -(10**30))
UNLIKE, ORDER, FIRST, TALLY = Unlike(["a"]), Order([("a", "up")]), First(2), Tally(["a"], "c")
MEETING = [UNLIKE, ORDER, FIRST, TALLY]
STILL = [Where(Lacks("a")), Pick(["a"]), Lower("a"), Trim("a"), Fill("a", "x")]
LINES = [
    'where n below 5', 'where not (a is "x" or n lacks)', "lower a", "trim a", "round n", 'fill a "x "', "fill n -5",
    "order n down a up", "first 3", "pick n a",
]


class QuestionTest(unittest.TestCase):
    def assert_invalid(self, at, word, make, *told):
        with self.subTest(at=at, word=word):
            with self.assertRaises(InvalidQuestion) as caught:
                make(*told)
            self.assertEqual((caught.exception.at, caught.exception.word), (at, word))

    def assert_wrong(self, at, word, steps, columns=BOTH):
        """That these steps can't be done, whether they are passed or read."""
        self.assert_invalid(at, word, Question, columns, steps)
        self.assert_invalid(at, word, Question, columns, tuple(steps))
        self.assert_invalid(at, word, Question.read, columns, "\n".join(map(str, steps)))

    def assert_right(self, steps, ends=None, columns=BOTH):
        question = Question(columns, steps)
        self.assertEqual([str(step) for step in question.steps], [str(step) for step in steps])
        if ends is not None:
            self.assertEqual(question.ends, ends)

    def assert_unreadable(self, at, text, columns=BOTH):
        with self.subTest(text):
            with self.assertRaises(InvalidText) as caught:
                Question.read(columns, text)
            self.assertEqual(caught.exception.at, at)


class Making(QuestionTest):
    """Promise [17]: the arguments, and attributes."""

    def test_attributes(self):
        steps = [Lower("a"), Pick(["n"])]
        for columns in (list(BOTH), BOTH):
            for told in (steps, tuple(steps)):
                question = Question(columns=columns, steps=told)
                self.assertEqual(question.columns, BOTH)
                self.assertEqual([id(step) for step in question.steps], [id(step) for step in steps])
                self.assertEqual(question.ends, (("n", "number"),))
                for kept in (question.columns, question.steps, question.ends, *question.columns, *question.ends):
                    self.assertIs(kept.__class__, tuple)

    def test_without_steps(self):
        for question in (Question(BOTH), Question(BOTH, []), Question(list(BOTH), ())):
            self.assertEqual((question.columns, question.steps, question.ends), (BOTH, (), BOTH))

    def test_lists_can_be_changed_behind(self):
        columns, steps = list(BOTH), [Lower("a"), First(1)]
        question = Question(columns, steps)
        self.assertEqual((columns, len(steps)), (list(BOTH), 2))
        columns[0] = ("b", "text")
        columns.append(("c", "text"))
        steps[0] = First(3)
        steps.append(Trim("a"))
        self.assertEqual(question, Question(BOTH, [Lower("a"), First(1)]))
        self.assertEqual((question.steps, question.ends), ((Lower("a"), First(1)), BOTH))
        self.assertEqual(question.run(Table(BOTH, [["X", 1], ["y", 2]]), Ways()).rows, (("x", 1),))

    def test_any_value_as_columns(self):
        right = [[("a", "text")], (("a", "text"),)]
        for value in any_values():
            if not is_among(value, right):
                self.assert_invalid(-1, "columns", Question, value)
                self.assert_invalid(-1, "columns", Question, value, value)
                self.assert_invalid(-1, "columns", Question.read, value, "")
            if value != ("a", "text"):
                self.assert_invalid(-1, "columns", Question, [value])
                self.assert_invalid(-1, "columns", Question, [("b", "text"), value], [First(1)])

    def test_wrong_columns(self):
        for columns in [
            [], (), [["a", "text"]], [("a", "text"), ("a", "number")], [("is", "text")], [("a", "texts")],
            [("abcde", "text")],
            ("a", "text"), [("a", "text", "text")], "a text", None,
        ]:
            for steps in ((), None, [Lower("b")], [None]):
                self.assert_invalid(-1, "columns", Question, columns, steps)

    def test_any_value_as_steps(self):
        for value in any_values():
            if not isinstance(value, (list, tuple)) or not all(isinstance(each, Step) for each in value):
                self.assert_invalid(-1, "steps", Question, BOTH, value)
            if not isinstance(value, Step):
                self.assert_invalid(-1, "steps", Question, BOTH, [value])
                self.assert_invalid(-1, "steps", Question, BOTH, (Lower("b"), value))
                self.assert_invalid(-1, "steps", Question, BOTH, [value, First(1), First(2)])
        self.assert_invalid(-1, "steps", Question, BOTH, First(1))
        self.assert_invalid(-1, "steps", Question, BOTH, Question(BOTH, [First(1)]))
        self.assert_invalid(-1, "steps", Question, BOTH, [[First(1)]])
        self.assert_invalid(-1, "steps", Question, BOTH, "first 1")
        self.assert_invalid(-1, "steps", Question, BOTH, nested(First(1), 8, list))

    def test_ends(self):
        for steps, ends in [
            ([Where(Is("a", "x"))], FOUR),
            ([Lower("a"), Trim("b"), Round("n"), Fill("m", 1)], FOUR),
            ([Unlike(["m"])], FOUR), ([Order([("m", "up")]), First(1)], FOUR),
            ([Pick(["m", "a"])], (("m", "number"), ("a", "text"))),
            ([Pick(["m", "a", "b"]), Pick(["b", "m"])], (("b", "text"), ("m", "number"))),
            ([Tally(["n", "b"], "c")], (("n", "number"), ("b", "text"), ("c", "number"))),
            ([Pick(["b", "a"]), Tally(["a"], "n")], (("a", "text"), ("n", "number"))),
            ([Tally(["n"], "a")], (("n", "number"), ("a", "number"))),
        ]:
            self.assert_right(steps, ends, FOUR)


class Wrong(QuestionTest):
    """Promise [17]: what is wrong about steps."""

    def test_column(self):
        for step in [
            Where(Is("b", "x")), Where(Is("a", "x") & ~Lacks("b")), Where(Lacks("a") | Below("n", 1) | Lacks("b")),
            Pick(["b"]),
            Pick(["a", "b"]), Lower("b"), Trim("b"), Round("b"), Fill("b", "x"), Fill("b", 1), Unlike(["a", "n", "b"]),
            Order([("b", "up")]), Order([("a", "up"), ("b", "down")]), Tally(["b"], "c"), Tally(["a", "b"], "b"),
        ]:
            self.assert_wrong(0, "column", [step])
            self.assert_wrong(2, "column", [Lower("a"), Pick(["n", "a"]), step, step])
            self.assert_invalid(0, "column", Question, (("aa", "text"),), [step])

    def test_columns_that_are_no_longer_there(self):
        for step in [
            Where(Lacks("a")), Pick(["a"]), Pick(["n", "a"]), Lower("a"), Trim("a"), Fill("a", "x"), Unlike(["a"]),
            Order([("a", "up")]), Tally(["a"], "c"),
        ]:
            self.assert_right([step])
            self.assert_wrong(1, "column", [Pick(["n"]), step])
        self.assert_wrong(1, "column", [Tally(["n"], "c"), Lower("a")])
        self.assert_wrong(1, "column", [Tally(["n"], "c"), Order([("n", "up"), ("a", "up")])])

    def test_sort(self):
        for step in [
            Lower("n"), Trim("n"), Round("a"), Fill("a", 1), Fill("n", "x"), Fill("n", ""), Where(Is("a", 1)),
            Where(Is("n", "x")),
            Where(Below("a", 0)), Where(Below("n", "")), Where(~(Lacks("a") | (Is("n", 1) & Is("a", 1)))),
            Where(Is("a", "x") & Is("a", 1)), Where(Is("n", 1) & Is("n", "x")), Where(Is("n", "x") & Is("n", 1)),
        ]:
            self.assert_wrong(0, "sort", [step])
            self.assert_wrong(2, "sort", [Fill("n", 1), Unlike(["a"]), step, step])
        self.assert_right([Where(Lacks("a") & Lacks("n")), Where(Is("a", "") | Below("n", 0))])
        self.assert_right([Fill("a", ""), Fill("n", 0), Lower("a"), Trim("a"), Round("n")])

    def test_the_sort_of_a_column_can_change(self):
        self.assert_wrong(1, "place", [Tally(["n"], "a"), Round("a")])
        self.assert_wrong(1, "sort", [Tally(["n"], "a"), Lower("a")])
        self.assert_wrong(1, "place", [Tally(["a"], "n"), Where(Is("n", 1))])
        self.assert_wrong(1, "sort", [Tally(["a"], "n"), Where(Is("n", "x"))])

    def test_new(self):
        self.assert_wrong(0, "new", [Tally(["a"], "a")])
        self.assert_wrong(0, "new", [Tally(["a", "n"], "n")])
        self.assert_wrong(1, "new", [Lower("a"), Tally(["n", "a"], "n"), Lower("a")])
        self.assert_right([Tally(["a"], "n")])
        self.assert_right([Tally(["n"], "a")])

    def test_place_of_two_meeting_steps(self):
        for one, other in product(MEETING, MEETING):
            if one is ORDER and other is FIRST:
                self.assert_right([one, other])
            else:
                self.assert_wrong(1, "place", [one, other])
            for between in STILL:
                self.assert_wrong(1 if one is TALLY else 2, "place", [one, between, other])
                self.assert_wrong(1 if one is TALLY else 2, "place", [one, between, other, between])

    def test_a_first_directly_behind_an_order(self):
        self.assert_right([ORDER, FIRST])
        self.assert_right([*STILL, ORDER, FIRST, *STILL])
        for step in MEETING:
            self.assert_wrong(2, "place", [ORDER, FIRST, step])
            self.assert_wrong(3, "place", [ORDER, FIRST, Lower("a"), step])
        self.assert_wrong(1, "place", [FIRST, ORDER])
        self.assert_wrong(1, "place", [FIRST, ORDER, FIRST])
        self.assert_wrong(1, "place", [FIRST, FIRST])
        self.assert_wrong(1, "place", [ORDER, ORDER, FIRST])
        self.assert_wrong(1, "place", [UNLIKE, ORDER, FIRST])
        for between in STILL:
            self.assert_wrong(2, "place", [ORDER, between, FIRST])

    def test_one_meeting_step_anywhere(self):
        for step in MEETING[:3]:
            self.assert_right([step])
            self.assert_right([*STILL, step])
            self.assert_right([step, *STILL])
            self.assert_right([*STILL, step, *STILL])
        self.assert_right([*STILL, TALLY], (("a", "text"), ("c", "number")))

    def test_steps_behind_a_tally(self):
        for step in [*STILL, *MEETING, Where(Is("c", 1)), Pick(["c"]), Round("c"), Fill("c", 1)]:
            self.assert_wrong(1, "place", [TALLY, step])
            self.assert_wrong(2, "place", [Lower("a"), TALLY, step, step])
        self.assert_wrong(1, "place", [Tally(["a"], "n"), FIRST])

    def test_several_things_wrong_at_one_step(self):
        for word, step in [
            ("column", Where(Is("b", "x") & Is("a", 1))), ("column", Where(Is("a", 1) & Lacks("b"))),
            ("column", Tally(["b"], "b")),
            ("column", Tally(["a", "b"], "a")), ("column", Round("b")), ("sort", Lower("n")), ("sort", Round("a")),
            ("sort", Where(Is("a", 1))), ("new", Tally(["a"], "a")), ("column", Unlike(["b"])),
            ("column", Order([("b", "up")])),
            ("place", Unlike(["a"])), ("place", First(1)), ("place", Tally(["a"], "n")),
        ]:
            self.assert_wrong(1, word, [UNLIKE, step])
        for word, step in [
            ("column", Where(Lacks("n"))), ("column", Round("n")), ("column", Fill("n", "x")), ("sort", Lower("c")),
            ("sort", Fill("c", "x")), ("sort", Round("a")), ("new", Tally(["c"], "c")), ("new", Tally(["a", "c"], "a")),
            ("column", Tally(["n"], "n")), ("place", Tally(["a"], "c")),
        ]:
            self.assert_wrong(1, word, [TALLY, step])

    def test_the_first_wrong_step_is_told(self):
        self.assert_wrong(0, "sort", [Lower("n"), Lower("b")])
        self.assert_wrong(1, "place", [FIRST, FIRST, Lower("b"), Lower("n")])
        self.assert_wrong(1, "sort", [FIRST, Round("a"), FIRST])
        self.assert_wrong(3, "new", [Lower("a"), Trim("a"), Round("n"), Tally(["a"], "a"), Lower("b")])
        for at in range(8):
            steps = [Lower("a")] * 8
            steps[at] = Lower("b")
            self.assert_wrong(at, "column", steps)
            self.assert_wrong(at, "column", [*steps, Lower("n")])


class Running(QuestionTest):
    """Promise [18]."""

    def setUp(self):
        self.table = Table(BOTH, [["X ", 14], ["x", 5], [None, -3], ["y", None], ["x ", 6]])

    def test_steps_one_after_another(self):
        steps = [Where(~Lacks("a")), Trim("a"), Lower("a"), Unlike(["a"]), Fill("n", 7), Round("n"), Pick(["n", "a"])]
        answer = Question(BOTH, steps).run(table=self.table, ways=Ways(unit=10))
        self.assertEqual(answer, Table([("n", "number"), ("a", "text")], [[10, "x"], [10, "y"]]))
        self.assertIsInstance(answer, Table)

    def test_the_order_of_steps_counts(self):
        ways = Ways(unit=10)
        one = Question(BOTH, [Where(Below("n", 10)), Round("n")])
        other = Question(BOTH, [Round("n"), Where(Is("n", 10)), Lower("a")])
        self.assertEqual(one.run(self.table, ways).under("n"), (0, 0))
        self.assertEqual(other.run(self.table, ways).rows, (("x ", 10), ("x ", 10)))
        self.assertEqual(Question(BOTH, [ORDER, FIRST]).run(self.table, Ways()).rows, ((None, -3), ("X ", 14)))
        self.assertEqual(Question(BOTH, [FIRST]).run(self.table, Ways()).rows, (("X ", 14), ("x", 5)))

    def test_each_step_sees_what_the_one_ahead_made(self):
        steps = [Fill("a", ""), Where(Is("a", ""))]
        self.assertEqual(Question(BOTH, steps).run(self.table, Ways()).rows, (("", -3),))
        steps = [Pick(["n"]), Order([("n", "down")]), First(3), Where(Below("n", 10)), Fill("n", 1)]
        self.assertEqual(Question(BOTH, steps).run(self.table, Ways()).rows, ((6,), (5,)))
        steps = [Pick(["n", "a"]), Lower("a"), Trim("a"), Tally(["a"], "n")]
        self.assertEqual(Question(BOTH, steps).run(self.table, Ways()).rows, (("x", 3), (None, 1), ("y", 1)))

    def test_without_steps_and_without_rows(self):
        self.assertEqual(Question(BOTH).run(self.table, Ways(case="folded")), self.table)
        steps = [Lower("a"), Tally(["a"], "c")]
        self.assertEqual(Question(BOTH, steps).run(Table(BOTH), Ways()), Table([("a", "text"), ("c", "number")]))

    def test_the_table_stays(self):
        before = Table(BOTH, self.table.rows)
        for step in some_steps():
            Question(BOTH, [step]).run(self.table, Ways("folded", "dropped", "lacks", unit=10))
        self.assertEqual(self.table, before)

    def test_other_columns(self):
        for columns in [
            [("n", "number"), ("a", "text")], [("a", "text")], [("a", "text"), ("n", "text")],
            [("b", "text"), ("n", "number")],
            [*BOTH, ("b", "text")],
        ]:
            for question in (Question(BOTH), Question(BOTH, [Lower("a")])):
                with self.assertRaises(Mismatch):
                    question.run(Table(columns), Ways())

    def test_length_and_steps_by_number(self):
        steps = [Lower("a"), Trim("a"), First(1)]
        question = Question(BOTH, steps)
        self.assertEqual((len(question), len(Question(BOTH))), (3, 0))
        self.assertEqual([id(question[at]) for at in range(3)], [id(step) for step in steps])
        for asked in (question, Question(BOTH)):
            for at in (*WRONG_PLACES, len(asked), len(asked) + 1):
                with self.assertRaises(NoStep) as caught:
                    asked[at]
                self.assertEqual(caught.exception.at, at)

    def test_not_iterable(self):
        question = Question(BOTH, [Lower("a")])
        for reach in (iter, list, tuple, lambda asked: [*asked], lambda asked: Lower("a") in asked):
            with self.assertRaises(TypeError):
                reach(question)


class Putting(QuestionTest):
    """Promise [18]: >>, without, upto, behind."""

    def test_one_behind_the_other(self):
        one, other = Question(BOTH, [Lower("a"), Pick(["a"])]), Question([("a", "text")], [Trim("a"), First(1)])
        both = one >> other
        self.assertEqual(both, Question(BOTH, [Lower("a"), Pick(["a"]), Trim("a"), First(1)]))
        self.assertEqual((both.columns, both.ends), (BOTH, (("a", "text"),)))
        self.assertEqual((len(one), len(other)), (2, 2))
        self.assertEqual(Question(BOTH) >> one, one)
        self.assertEqual(other >> Question([("a", "text")]), other)
        self.assertEqual(Question(BOTH) >> Question(BOTH), Question(BOTH))
        self.assertEqual(Question(BOTH, [ORDER]) >> Question(BOTH, [FIRST]), Question(BOTH, [ORDER, FIRST]))

    def test_in_place_makes_a_new_question(self):
        question = kept = Question(BOTH, [Lower("a")])
        question >>= Question(BOTH, [First(1)])
        self.assertEqual(question, Question(BOTH, [Lower("a"), First(1)]))
        self.assertEqual(kept, Question(BOTH, [Lower("a")]))
        self.assertIsNot(question, kept)

    def test_mismatch(self):
        one = Question(BOTH, [Pick(["a"])])
        for columns in (BOTH, [("b", "text")], [("a", "number")], [("a", "text"), ("b", "text")]):
            with self.assertRaises(Mismatch):
                one >> Question(columns)
        with self.assertRaises(Mismatch):
            Question(BOTH) >> Question(reversed_columns(BOTH))
        with self.assertRaises(Mismatch):
            Question(BOTH, [FIRST]) >> Question(reversed_columns(BOTH), [FIRST])
        with self.assertRaises(Mismatch):
            Question(BOTH, [TALLY]) >> Question(BOTH, [FIRST])

    def test_errors_of_the_joined_question(self):
        def join(one, other):
            return one >> other

        self.assert_invalid(1, "place", join, Question(BOTH, [FIRST]), Question(BOTH, [ORDER]))
        self.assert_invalid(3, "place", join, Question(BOTH, [Lower("a"), ORDER]), Question(BOTH, [Trim("a"), FIRST]))
        tallied = Question(BOTH, [Lower("a"), TALLY])
        self.assert_invalid(2, "place", join, tallied, Question(tallied.ends, [Lower("a")]))
        self.assertEqual(tallied >> Question(tallied.ends), tallied)

    def test_questions_alone(self):
        for value in (None, 1, "first 1", [First(1)], First(1)):
            with self.assertRaises(TypeError):
                Question(BOTH) >> value

    def test_without(self):
        question = Question(BOTH, [Lower("a"), ORDER, FIRST, Pick(["n"])])
        for at, steps in enumerate([
            [ORDER, FIRST, Pick(["n"])], [Lower("a"), FIRST, Pick(["n"])], [Lower("a"), ORDER, Pick(["n"])],
            [Lower("a"), ORDER, FIRST],
        ]):
            self.assertEqual(question.without(at=at), Question(BOTH, steps))
        self.assertEqual(len(question), 4)
        self.assertEqual(Question(BOTH, [FIRST]).without(0), Question(BOTH))

    def test_without_what_is_not_there(self):
        for question in (Question(BOTH), Question(BOTH, [Lower("a"), FIRST])):
            for at in (*WRONG_PLACES, len(question), len(question) + 1):
                with self.assertRaises(NoStep) as caught:
                    question.without(at)
                self.assertEqual(caught.exception.at, at)

    def test_without_a_step_that_changes_the_columns(self):
        picked = Question(BOTH, [Pick(["n", "a"]), Lower("a")])
        self.assertEqual(picked.without(0).ends, BOTH)
        self.assertEqual(Question(BOTH, [Lower("a"), TALLY]).without(1).ends, BOTH)

    def test_upto_and_behind(self):
        steps = [Lower("a"), ORDER, FIRST, Pick(["n"]), Round("n")]
        question = Question(BOTH, steps)
        for at in range(6):
            ends = BOTH if at < 4 else (("n", "number"),)
            self.assertEqual(question.upto(at=at), Question(BOTH, steps[:at]))
            self.assertEqual(question.upto(at).ends, ends)
            self.assertEqual(question.behind(at=at), Question(ends, steps[at:]))
            self.assertEqual(question.behind(at).columns, ends)
            self.assertEqual(question.upto(at) >> question.behind(at), question)
        tallied = Question(BOTH, [Lower("a"), TALLY])
        self.assertEqual(tallied.behind(2), Question([("a", "text"), ("c", "number")]))
        self.assertEqual(Question(BOTH).upto(0), Question(BOTH))
        self.assertEqual(Question(BOTH).behind(0), Question(BOTH))

    def test_upto_and_behind_what_is_not_there(self):
        for question in (Question(BOTH), Question(BOTH, [Lower("a"), FIRST])):
            for at in (*WRONG_PLACES, len(question) + 1, len(question) + 2):
                for part in (question.upto, question.behind):
                    with self.assertRaises(NoStep) as caught:
                        part(at)
                    self.assertEqual(caught.exception.at, at)


class Comparing(QuestionTest):
    def test_equal(self):
        steps = [Lower("a"), Where(Is("a", "x")), ORDER]
        self.assertIs(Question(BOTH, steps) == Question(list(BOTH), tuple(steps)), True)
        self.assertIs(Question(BOTH, steps) != Question(list(BOTH), tuple(steps)), False)
        self.assertIs(Question(BOTH, steps) == Question.read(BOTH, 'lower a\nwhere a is "x"\norder a up'), True)

    def test_unequal(self):
        question = Question(BOTH, [Lower("a"), Trim("a")])
        for other in [
            Question(BOTH, [Trim("a"), Lower("a")]), Question(BOTH, [Lower("a")]), Question(BOTH),
            Question([BOTH[0]], question.steps),
            Question(reversed_columns(BOTH), question.steps), Question([("a", "text"), ("n", "text")], question.steps),
            Question(BOTH, [Lower("a"), Trim("a"), Trim("a")]),
        ]:
            self.assertIs(question == other, False)
            self.assertIs(question != other, True)

    def test_equal_to_nothing_of_another_class(self):
        for question in (Question(BOTH), Question(BOTH, [First(1)])):
            for value in [*any_values(), str(question), question.steps]:
                if not isinstance(value, Question):
                    self.assertIs(question == value, False)
                    self.assertIs(value == question, False)
                    self.assertIs(question != value, True)


class Texts(QuestionTest):
    """Promise [19]."""

    def test_writing(self):
        self.assertEqual(str(Question(BOTH)), "")
        self.assertEqual(str(Question(BOTH, [First(1)])), "first 1")
        question = Question(BOTH, [Where(Is("a", "x ")), Tally(["n", "a"], "c")])
        self.assertEqual(str(question), 'where a is "x "\ntally n a as c')

    def test_reading(self):
        text = "\n".join(LINES)
        question = Question.read(columns=BOTH, text=text)
        self.assertIsInstance(question, Question)
        self.assertEqual(str(question), text)
        self.assertEqual([str(question[at]) for at in range(len(question))], LINES)
        self.assertEqual(question, Question(BOTH, question.steps))
        self.assertEqual((question.columns, question.ends), (BOTH, (("n", "number"), ("a", "text"))))
        for at in range(len(LINES)):
            self.assertEqual(str(Question.read(list(BOTH), "\n".join(LINES[:at]))), "\n".join(LINES[:at]))

    def test_the_empty_text(self):
        self.assertEqual(Question.read(BOTH, ""), Question(BOTH))
        for text in ("\n", "\n\n", "\nfirst 1", " "):
            self.assert_unreadable(0, text)
        for text in ("first 1\n", "first 1\n\nlower a"):
            self.assert_unreadable(1, text)

    def test_the_first_line_that_is_no_text(self):
        wrong = ["", " ", "first 01", 'where (a is "x")', "lower a ", "home", "pick a a", "a lacks", "order a", "-"]
        for line in wrong:
            for at in range(5):
                lines = ["lower a"] * 5
                lines[at] = line
                self.assert_unreadable(at, "\n".join([*lines, line]))
                self.assert_unreadable(at, "\n".join([*lines, "lower a"]))
        for line in wrong[1:]:
            self.assert_unreadable(0, line)

    def test_invalid_text_comes_ahead_of_invalid_question(self):
        self.assert_unreadable(2, "lower b\nlower n\nlower")
        self.assert_unreadable(1, "first 1\nfirst 0\nfirst 1")
        self.assert_unreadable(1, "tally a as a\n")
        for columns in ([], None, "a text", [("a", "text"), ("a", "text")]):
            self.assert_unreadable(1, "lower a\nlower", columns)
            self.assert_invalid(-1, "columns", Question.read, columns, "lower a")
        self.assert_invalid(1, "sort", Question.read, BOTH, "lower a\nlower n\nlower b")

    def test_lines_are_parted_by_newlines_alone(self):
        for text in ("lower a\rtrim a", "lower a\r\ntrim a", "lower a; trim a", "lower a, trim a", "lower a trim a"):
            self.assert_unreadable(0, text)


def reversed_columns(columns):
    """The columns in the other order."""
    return tuple(reversed(columns))


if __name__ == "__main__":
    unittest.main()

"""Promise [20]: plans."""

import unittest
from itertools import product

from sentparts.conditions import Below, Is, Lacks
from sentparts.errors import InvalidQuestion, Mismatch, NoStep
from sentparts.plans import Plan
from sentparts.questions import Question
from sentparts.steps import Fill, First, Lower, Order, Pick, Round, Tally, Trim, Where
from sentparts.tables import Table
from sentparts.ways import Ways
from tests.values import any_values

BOTH = (("a", "text"), ("n", "number"))
NONE = Question(BOTH)
HOME, FAR = Ways(), Ways(case="folded", unit=10)
ORDER, FIRST, TALLY = Order([("a", "up")]), First(2), Tally(["a"], "c")


class Making(unittest.TestCase):
    def test_attributes(self):
        sent, rest = Question(BOTH, [Lower("a"), Pick(["a"])]), Question([("a", "text")], [First(1)])
        plan = Plan(sent=sent, rest=rest)
        self.assertIs(plan.sent, sent)
        self.assertIs(plan.rest, rest)
        self.assertIsInstance(plan.whole, Question)
        self.assertEqual(plan.whole, Question(BOTH, [Lower("a"), Pick(["a"]), First(1)]))
        self.assertEqual(Plan(NONE, NONE).whole, NONE)

    def test_mismatch(self):
        for sent, rest in [
            (NONE, Question([("a", "text")])), (NONE, Question(tuple(reversed(BOTH)))),
            (Question(BOTH, [Pick(["a"])]), NONE),
            (NONE, Question([("a", "text"), ("n", "text")])),
            (Question(BOTH, [FIRST]), Question([("b", "text")], [FIRST])),
            (Question(BOTH, [TALLY]), Question(BOTH, [FIRST])),
        ]:
            with self.assertRaises(Mismatch):
                Plan(sent, rest)

    def test_errors_of_the_whole(self):
        tallied = Question(BOTH, [Lower("a"), TALLY])
        for at, sent, rest in [
            (1, Question(BOTH, [FIRST]), Question(BOTH, [FIRST])),
            (1, Question(BOTH, [FIRST]), Question(BOTH, [ORDER, FIRST])),
            (2, Question(BOTH, [ORDER]), Question(BOTH, [Lower("a"), FIRST])),
            (2, tallied, Question(tallied.ends, [Lower("a")])),
        ]:
            with self.assertRaises(InvalidQuestion) as caught:
                Plan(sent, rest)
            self.assertEqual((caught.exception.at, caught.exception.word), (at, "place"))
        self.assertEqual(Plan(Question(BOTH, [ORDER]), Question(BOTH, [FIRST])).whole, Question(BOTH, [ORDER, FIRST]))
        self.assertEqual(Plan(tallied, Question(tallied.ends)).whole, tallied)

    def test_cut(self):
        question = Question(BOTH, [Lower("a"), ORDER, FIRST, Pick(["n"]), Round("n")])
        for at in range(6):
            plan = Plan.cut(question=question, at=at)
            self.assertIsInstance(plan, Plan)
            self.assertEqual((plan.sent, plan.rest), (question.upto(at), question.behind(at)))
            self.assertEqual(plan.whole, question)
            self.assertEqual(len(plan), at)

    def test_cut_where_there_is_no_step(self):
        for question in (NONE, Question(BOTH, [Lower("a"), ORDER])):
            for at in (-1, -2, len(question) + 1, len(question) + 2, 10**30, -(10**30)):
                with self.assertRaises(NoStep) as caught:
                    Plan.cut(question, at)
                self.assertEqual(caught.exception.at, at)

    def test_length(self):
        self.assertEqual(len(Plan(NONE, NONE)), 0)
        self.assertEqual(len(Plan(NONE, Question(BOTH, [Lower("a"), FIRST]))), 0)
        self.assertEqual(len(Plan(Question(BOTH, [Lower("a"), FIRST]), NONE)), 2)
        self.assertEqual(len(Plan(Question(BOTH, [Lower("a"), FIRST]), Question(BOTH, [Trim("a")]))), 2)

    def test_not_iterable(self):
        with self.assertRaises(TypeError):
            iter(Plan(NONE, Question(BOTH, [Lower("a")])))


class Running(unittest.TestCase):
    def setUp(self):
        self.table = Table(BOTH, [["X", 14], ["x", 5], [None, -3], ["y", 15], ["x", 14]])

    def test_the_far_store_does_the_first_ones(self):
        question = Question(BOTH, [Where(Is("a", "x")), Round("n")])
        answers = [Plan.cut(question, at).run(table=self.table, far=FAR, home=HOME).rows for at in range(3)]
        self.assertEqual(answers, [
            (("x", 5), ("x", 14)), (("X", 14), ("x", 5), ("x", 14)), (("X", 10), ("x", 0), ("x", 10)),
        ])

    def test_the_home_store_does_the_rest(self):
        question = Question(BOTH, [Where(Is("a", "x")), Round("n")])
        answers = [Plan.cut(question, at).run(self.table, HOME, FAR).rows for at in range(3)]
        self.assertEqual(answers, [
            (("X", 10), ("x", 0), ("x", 10)), (("x", 0), ("x", 10)), (("x", 5), ("x", 14)),
        ])

    def test_it_is_one_question_after_the_other(self):
        test, order = ~Lacks("a") & Below("n", 15), Order([("a", "down"), ("n", "up")])
        question = Question(BOTH, [Fill("a", "X"), Where(test), order, First(3)])
        ways = [HOME, FAR, Ways(unit=10, halves="cut"), Ways(empty="lacks", last=True, lacking="alike")]
        for far, home in product(ways, ways):
            for at in range(5):
                plan = Plan.cut(question, at)
                self.assertEqual(plan.run(self.table, far, home), plan.rest.run(plan.sent.run(self.table, far), home))
            self.assertEqual(Plan.cut(question, 0).run(self.table, far, home), question.run(self.table, home))
            self.assertEqual(Plan.cut(question, 4).run(self.table, far, home), question.run(self.table, far))

    def test_an_order_at_one_store_and_the_first_rows_at_the_other(self):
        plan = Plan(Question(BOTH, [ORDER]), Question(BOTH, [FIRST]))
        self.assertEqual(plan.run(self.table, Ways(last=True), HOME).rows, (("X", 14), ("x", 5)))
        self.assertEqual(plan.run(self.table, HOME, Ways(last=True)).rows, ((None, -3), ("X", 14)))

    def test_a_tally_that_is_sent(self):
        plan = Plan.cut(Question(BOTH, [Pick(["a"]), TALLY]), 2)
        self.assertEqual(str(plan.run(self.table, FAR, HOME)), 'a text, c number\n"X", 3\n-, 1\n"y", 1')

    def test_nothing_to_do(self):
        self.assertEqual(Plan(NONE, NONE).run(self.table, FAR, HOME), self.table)

    def test_mismatch(self):
        others = [[("a", "text")], tuple(reversed(BOTH)), [("a", "text"), ("n", "text")], [*BOTH, ("b", "text")]]
        for plan in (Plan(NONE, NONE), Plan(Question(BOTH, [Pick(["a"])]), Question([("a", "text")]))):
            for columns in others:
                with self.assertRaises(Mismatch):
                    plan.run(Table(columns), FAR, HOME)


class Comparing(unittest.TestCase):
    def test_equal_if_both_questions_are(self):
        question = Question(BOTH, [Lower("a"), Trim("a")])
        plans = [Plan.cut(question, at) for at in range(3)]
        for (at, plan), (behind, other) in product(enumerate(plans), enumerate(plans)):
            self.assertIs(plan == other, at == behind)
            self.assertIs(plan != other, at != behind)
        self.assertIs(plans[1] == Plan(Question(BOTH, [Lower("a")]), Question(BOTH, [Trim("a")])), True)
        self.assertIs(plans[1] == Plan(Question(BOTH, [Lower("a")]), Question(BOTH, [Lower("a")])), False)
        self.assertIs(plans[1] == Plan(Question(BOTH, [Trim("a")]), Question(BOTH, [Trim("a")])), False)
        self.assertIs(Plan(NONE, NONE) == Plan(Question([("a", "text")]), Question([("a", "text")])), False)

    def test_equal_to_nothing_of_another_class(self):
        for plan in (Plan(NONE, NONE), Plan(Question(BOTH, [FIRST]), NONE)):
            for value in [*any_values(), str(plan), plan.whole, (plan.sent, plan.rest)]:
                if not isinstance(value, Plan):
                    self.assertIs(plan == value, False)
                    self.assertIs(value == plan, False)
                    self.assertIs(plan != value, True)


class Texts(unittest.TestCase):
    def test_texts(self):
        one, other = Question(BOTH, [Lower("a"), ORDER]), Question(BOTH, [First(1), Pick(["n"])])
        self.assertEqual(str(Plan(one, other)), "lower a\norder a up\nhome\nfirst 1\npick n")
        self.assertEqual(str(Plan(one, NONE)), "lower a\norder a up\nhome")
        self.assertEqual(str(Plan(NONE, other)), "home\nfirst 1\npick n")
        self.assertEqual(str(Plan(NONE, NONE)), "home")


if __name__ == "__main__":
    unittest.main()

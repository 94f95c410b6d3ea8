"""Promises [30] and [31]: desks."""

import unittest

from sentparts.deciding import matters, parting
from sentparts.desk import Desk
from sentparts.errors import InvalidCommand, InvalidQuestion, InvalidText, NoStep
from sentparts.plans import Plan
from sentparts.questions import Question
from sentparts.tables import Table
from sentparts.ways import Ways
from tests.running import parts
from tests.values import any_values

FOLDED = "folded kept text unknown first 1 even"
TABLE = 'table a text, n number ; "x", 1 ; "X", 5 ; -, 12 ; "x ", -'
QUESTION = 'question where n below 10 ; where a is "x" ; pick a'


def a_desk(*commands):
    """A desk to which commands were said."""
    desk = Desk()
    for command in commands:
        desk.say(command)
    return desk


def told(desk):
    """All that a desk tells without being changed."""
    calls = ["answer", "cuts", "matters", "sent 0", "parting 0"]
    return [desk.say(command) for command in calls], len(desk)


class Commands(unittest.TestCase):
    def test_a_new_desk(self):
        desk = Desk()
        self.assertEqual(len(desk), 0)
        for command, result in [
            ("answer", "a text"), ("cuts", "0"), ("matters", "none"), ("sent 0", "a text"), ("parting 0", "never"),
            ("undo", "nothing"),
        ]:
            self.assertEqual(desk.say(command), result)
        self.assertEqual(len(desk), 0)
        self.assertEqual(desk.say(command="question lower a"), "1")

    def test_ways(self):
        desk = a_desk('table a text ; "x" ; "X" ; -', 'question where not a is "x"')
        self.assertEqual(desk.say("answer"), 'a text ; "X"')
        self.assertEqual(desk.say(f"far {FOLDED}"), "kept")
        self.assertEqual((desk.say("answer"), desk.say("sent 1")), ('a text ; "X"', "a text"))
        self.assertEqual(desk.say("home exact kept text unlike last 10 cut"), "kept")
        self.assertEqual(desk.say("answer"), 'a text ; "X" ; -')
        self.assertEqual((desk.say("sent 1"), desk.say("sent 0")), ("a text", 'a text ; "X" ; -'))
        self.assertEqual(desk.say("home " + FOLDED), "kept")
        self.assertEqual((desk.say("answer"), len(desk)), ("a text", 5))

    def test_the_ways_of_both_stores_are_kept_apart(self):
        for store in ("home", "far"):
            desk = a_desk('table n number ; 14', "question round n", f"{store} exact kept text unknown first 10 even")
            self.assertEqual(desk.say("answer"), "n number ; 10" if store == "home" else "n number ; 14")
            self.assertEqual(desk.say("sent 1"), "n number ; 14" if store == "home" else "n number ; 10")

    def test_tables(self):
        desk = Desk()
        for command, many in [
            ("table a text", "0"), ("table n number, b text", "0"), (TABLE, "4"), ("table n number ; -5", "1"),
            ('table a text ; "" ; " " ; "  "', "3"), ("table a text, b text, c text, d text, e number", "0"),
            ("table a text" + " ; -" * 40, "40"),
        ]:
            self.assertEqual(desk.say(command), many)
            self.assertEqual(desk.say("answer"), command.removeprefix("table "))
        self.assertEqual(len(desk), 7)

    def test_questions(self):
        desk = a_desk(TABLE)
        for command, many in [
            (QUESTION, "3"), ("question", "0"), ("question lower a", "1"), ("question first 3 ; lower a", "2"),
            ("question lower a" + " ; trim a" * 7, "8"), ('question where a is "x"', "1"),
        ]:
            self.assertEqual(desk.say(command), many)
        self.assertEqual(len(desk), 7)
        self.assertEqual(desk.say("answer"), 'a text, n number ; "x", 1')

    def test_a_question_is_asked_of_the_columns_of_the_table(self):
        desk = a_desk(TABLE, QUESTION)
        self.assertEqual(desk.say("answer"), 'a text ; "x"')
        self.assertEqual(desk.say("table n number ; 4"), "1")
        self.assertEqual((desk.say("answer"), desk.say("cuts"), desk.say("sent 0")), ("n number ; 4", "0",
            "n number ; 4"))
        with self.assertRaises(NoStep):
            desk.say("sent 1")
        with self.assertRaises(InvalidQuestion) as caught:
            desk.say(QUESTION)
        self.assertEqual((caught.exception.at, caught.exception.word), (1, "column"))
        self.assertEqual(desk.say("question where n below 10"), "1")
        # Also a table with the same columns leaves no steps.
        desk.say("table n number ; 5")
        self.assertEqual(desk.say("cuts"), "0")

    def test_answers(self):
        desk = a_desk(TABLE, QUESTION, f"far {FOLDED}")
        table, question = Table.read(TABLE[6:].replace(" ; ", "\n")), Question.read(
            [("a", "text"), ("n", "number")], QUESTION[9:].replace(" ; ", "\n"),
        )
        far, home = Ways.read(FOLDED), Ways()
        self.assertEqual(desk.say("answer"), str(question.run(table, home)).replace("\n", " ; "))
        for at in range(4):
            answer = Plan.cut(question, at).run(table, far, home)
            self.assertEqual(desk.say(f"sent {at}"), str(answer).replace("\n", " ; "))
        self.assertEqual([desk.say(f"sent {at}") for at in (1, 2)], ['a text ; "x"', 'a text ; "x" ; "X"'])

    def test_cuts_partings_and_matters(self):
        desk = a_desk(TABLE, f"far {FOLDED}")
        columns = [("a", "text"), ("n", "number")]
        for text, numbers, names in [
            (QUESTION[9:], "0 1", "case blanks unit"), ("lower a ; trim a ; pick n a", "0 1 2 3", "none"),
            ('where a is "x" ; where a below "b"', "0 2", "none"),
            ("order a up ; first 1 ; pick n", "0", "case blanks empty last"),
            ("tally n as c", "0 1", "unit"),
        ]:
            with self.subTest(text):
                question = Question.read(columns, text.replace(" ; ", "\n"))
                desk.say(f"question {text}")
                self.assertEqual(desk.say("cuts"), numbers)
                self.assertEqual(desk.say("matters"), " ".join(matters(question, Ways())) or "none")
                if names != "none":
                    self.assertEqual(desk.say("matters"), names)
                for at in range(len(question) + 1):
                    p, q = Plan.cut(question, at), Plan.cut(question, 0)
                    result = desk.say(f"parting {at}")
                    if str(at) in numbers.split(" "):
                        self.assertEqual(result, "never")
                    else:
                        found = Table.read(result.replace(" ; ", "\n"))
                        self.assertEqual(len(found), len(parting(p, q, Ways.read(FOLDED), Ways())))
                        self.assertTrue(parts(p, q, Ways.read(FOLDED), Ways(), found))

    def test_matters_are_those_of_home(self):
        desk = a_desk("table n number", "question unlike n")
        self.assertEqual(desk.say("matters"), "unit")
        desk.say("far exact kept text unknown first 10 even")
        self.assertEqual(desk.say("matters"), "unit")
        desk.say("home exact kept text unknown first 10 even")
        self.assertEqual(desk.say("matters"), "unit halves")
        desk.say("question")
        self.assertEqual(desk.say("matters"), "none")

    def test_undo_of_each(self):
        base = ('table a text ; "x" ; "X" ; -', 'question where not a is "x"', f"far {FOLDED}")
        for command in [
            f"home {FOLDED}", "far exact kept text unlike first 1 even", TABLE, 'table a text ; "x" ; "X" ; -',
            "question lower a", "question", 'question where not a is "x"', "home exact kept text unknown first 1 even",
        ]:
            desk = a_desk(*base)
            before = told(desk)
            desk.say(command)
            self.assertEqual(len(desk), 4)
            self.assertEqual(desk.say("undo"), "undone")
            self.assertEqual(told(desk), before, command)

    def test_undo_to_the_beginning(self):
        commands = [TABLE, QUESTION, f"far {FOLDED}", f"home {FOLDED}", "question", "table n number ; 4",
            "question round n"]
        desk = Desk()
        states = [told(desk)]
        for command in commands:
            desk.say(command)
            states.append(told(desk))
        for many in range(len(commands), 0, -1):
            self.assertEqual((told(desk), len(desk)), (states[many], many))
            self.assertEqual(desk.say("undo"), "undone")
        self.assertEqual(told(desk), states[0])
        self.assertEqual((desk.say("undo"), desk.say("undo"), len(desk)), ("nothing", "nothing", 0))
        desk.say("question lower a")
        self.assertEqual((len(desk), desk.say("undo"), desk.say("undo")), (1, "undone", "nothing"))

    def test_other_commands_can_not_be_taken_back(self):
        desk = a_desk(TABLE, QUESTION)
        for command in ["answer", "sent 1", "cuts", "parting 1", "matters"]:
            desk.say(command)
            self.assertEqual(len(desk), 2)

    def test_a_table_is_taken_back_with_its_question(self):
        desk = a_desk(TABLE, QUESTION, "table n number ; 4", "question round n")
        for result in ("n number ; 4", "n number ; 4", 'a text ; "x"', TABLE[6:], "a text"):
            self.assertEqual(desk.say("answer"), result)
            desk.say("undo")

    def test_two_desks(self):
        one, other = Desk(), Desk()
        one.say(TABLE)
        self.assertEqual((other.say("answer"), len(other)), ("a text", 0))

    def test_newlines(self):
        desk = Desk()
        self.assertEqual(desk.say('table a text ; "x" ; "y"'), "2")
        self.assertEqual(desk.say("answer"), 'a text ; "x" ; "y"')
        # From left to right: the blank that one of them takes is not that of the next one.
        for command, at in [
            ("table a text ; ; -", 1), ("table a text ;", 0), ("table a text; -", 0), ("table a text ;  ; -", 1),
            ("table  ; a text", 0), ("table ; a text", 0), ("table a text ; - ; ", 2), ("table a text ; - ;", 1),
            ("table a text  ; -", 0), ("question lower a ;  ; lower a", 1), ("question lower a ; ; lower a", 1),
            ("question  ; lower a", 0), ("question lower a ; lower a ; ", 2), ("home exact ; kept", 0),
            (f"far {FOLDED} ; ", 0), ("table a text ; - ; 5", 2),
        ]:
            with self.subTest(command):
                with self.assertRaises(InvalidText) as caught:
                    desk.say(command)
                self.assertEqual(caught.exception.at, at)
        self.assertEqual(len(desk), 1)


class WrongCommands(unittest.TestCase):
    def test_any_value(self):
        desk = a_desk(TABLE, QUESTION)
        before = told(desk)
        for value in [*any_values(), b"answer", ["answer"], ("undo",)]:
            with self.assertRaises(InvalidCommand):
                desk.say(value)
        self.assertEqual(told(desk), before)

    def test_other_words(self):
        desk = a_desk(TABLE, QUESTION)
        before = told(desk)
        for command in [
            "", " ", "answer ", " answer", "answer x", "answer 1", "Answer", "ANSWER", "answers", "cuts ", "cuts 1",
            "matters ", "matters n", "undo ", "undo 1", "undo undo", "hello", "home", "home ", "far", "far ", "table",
            "table ", "question ", "sent", "sent ", "sent  1", "sent 1 ", "sent 1 2", "sent x", "sent one", "parting",
            "parting ", "parting 1 ", "parting x", "sent 00", "sent 01", "sent 0001", "sent 10000", "sent 12345",
            "sent 00000", "sent -1", "sent -0", "sent +1", "sent 1.0", "sent 1_0", "sent \u0661", "sent \uff11",
            "sent \u00b2", "sent 1 ; 2", "parting 00", "parting 00001", "parting 99999", "parting -1", "parting 1;",
            "homes exact", "sent\t1", "tables a text", "len", "home\texact", "sent 0x1", "sent 1e1", "; answer",
            "answer ; answer", "undo ; undo", "say answer", "wherever",
        ]:
            with self.subTest(command):
                with self.assertRaises(InvalidCommand):
                    desk.say(command)
        self.assertEqual(told(desk), before)

    def test_newlines(self):
        desk = a_desk(TABLE)
        for command in [
            "answer\n", "\nanswer", "\n", "table a text\n-", "question lower a\nlower a", "question\n", "sent 1\n",
            f"home {FOLDED}\n", "undo\n", "table a text ; -\n",
        ]:
            with self.assertRaises(InvalidCommand):
                desk.say(command)
        self.assertEqual((desk.say("answer"), len(desk)), (TABLE[6:], 1))

    def test_then_the_errors_of_what_is_read(self):
        desk = a_desk(TABLE, QUESTION)
        before = told(desk)
        for command, at in [
            ("home x", 0), ("home  ", 0), ("home exact", 0), (f"far {FOLDED} ", 0), (f"far  {FOLDED}", 0), ("far ;", 0),
            ("table  ", 0), ("table x", 0), ("table a text ; x", 1), ('table a text ; "x" ; 5', 2),
            ("table a text, a text", 0),
            ('table a text, n number ; "x"', 1), ("question  ", 0), ("question x", 0), ("question lower a ; x", 1),
            ("question where a is x", 0), ("question Lower a", 0), ("question lower a ; lower", 1), ("home \u00e9", 0),
        ]:
            with self.subTest(command):
                with self.assertRaises(InvalidText) as caught:
                    desk.say(command)
                self.assertEqual(caught.exception.at, at)
        for command, at, word in [
            ("question lower b", 0, "column"), ("question lower a ; lower n", 1, "sort"),
            ("question tally a as a", 0, "new"),
            ("question first 1 ; first 1", 1, "place"), ('question pick a ; where n is 5 ; lower b', 1, "column"),
        ]:
            with self.assertRaises(InvalidQuestion) as caught:
                desk.say(command)
            self.assertEqual((caught.exception.at, caught.exception.word), (at, word))
        for at in (4, 5, 10, 999, 9999):
            for word in ("sent", "parting"):
                with self.assertRaises(NoStep) as caught:
                    desk.say(f"{word} {at}")
                self.assertEqual(caught.exception.at, at)
        self.assertEqual(told(desk), before)

    def test_it_is_not_iterable(self):
        with self.assertRaises(TypeError):
            iter(Desk())


if __name__ == "__main__":
    unittest.main()

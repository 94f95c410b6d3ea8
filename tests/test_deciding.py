"""Promises [21] to [24]: whether plans are the same, on what they part, cuts, needless steps, rules that matter."""

import unittest
from itertools import combinations, product

from sentparts.cells import compared
from sentparts.deciding import alike, cuts, matters, needless, parting, same
from sentparts.errors import Mismatch
from sentparts.plans import Plan
from sentparts.questions import Question
from sentparts.tables import Table
from sentparts.ways import Ways
from tests.running import Maker, fewest_rows, parts, read_plan, some_tables, timed, told_in
from tests.values import CHOICES

A, N = [("a", "text")], [("n", "number")]
AN = A + N
HOME, FOLDED, TENS, LAST = Ways(), Ways(case="folded"), Ways(unit=10), Ways(last=True)
DROPPED, LACKS = Ways(blanks="dropped"), Ways(empty="lacks")
BLIND = Ways(case="folded", blanks="dropped")
TEXTS = [None, "", " ", "x", "X", "x ", "y", "Y"]
NUMBERS = [None, 0, 4, 5, 6, 15, -5]
POOLS = {"text": TEXTS, "number": NUMBERS}


class Decided(unittest.TestCase):
    def found(self, p, q, far, home):
        """The rows on which two plans part, after looking whether they do, and whether the same holds the other way."""
        found = parting(p, q, far, home)
        back = parting(q, p, far, home)
        self.assertIs(same(p, q, far, home), found is None)
        self.assertIs(same(q, p, far, home), found is None)
        if found is None:
            self.assertIsNone(back)
            return None
        for table in (found, back):
            self.assertIsInstance(table, Table)
            self.assertEqual(table.columns, p.whole.columns)
            self.assertTrue(parts(p, q, far, home, table), (str(p), str(q), str(far), str(home), str(table)))
            for many in range(len(table)):
                for rows in combinations(table.rows, many):
                    self.assertFalse(parts(p, q, far, home, Table(table.columns, rows)))
        self.assertEqual(len(back), len(found))
        return found.rows

    def sent(self, columns, text, far, home=HOME, at=None):
        """The rows on which a question whose first steps (or all) are sent parts from one of which none is."""
        question = Question.read(columns, text)
        return self.found(Plan.cut(question, len(question) if at is None else at), Plan.cut(question, 0), far, home)

    def at_home(self, columns, text, other, home=HOME):
        """The rows on which two questions at home part."""
        rows = self.found(read_plan(columns, "", text), read_plan(columns, "", other), FOLDED, home)
        p, q = Question.read(columns, text), Question.read(columns, other)
        self.assertIs(alike(p, q, home), rows is None)
        self.assertEqual(self.found(read_plan(columns, text, ""), read_plan(columns, other, ""), home, FOLDED), rows)
        return rows


class SinglesAndPairs(Decided):
    """[21] and [22]."""

    def test_without_a_meeting_step(self):
        for columns, text, far, many in [
            (A, 'where a is "x"', FOLDED, 1), (A, 'lower a\nwhere a is "x"', FOLDED, None),
            (A, 'where a is "x"\nlower a', FOLDED, 1), (A, "lower a\ntrim a", FOLDED, None),
            (A, 'where a is "X"\nwhere a is "x"', HOME, None), (A, 'where a is "x"', DROPPED, 1),
            (AN, "where n below 5", TENS, 1), (AN, "round n", TENS, 1), (AN, "round n\npick a", TENS, None),
            (AN, "where n is 10\nround n", TENS, 1), (AN, "", FOLDED, None), (A, 'fill a "x"', LACKS, 1),
            (A, 'fill a "x"', FOLDED, None), (A, 'fill a ""', LACKS, None), (N, "fill n 5", LACKS, None),
            (A, "where a lacks", LACKS, 1), (A, "where a lacks", LAST, None),
            (A, 'where a is "x"', Ways(lacking="unlike"), None), (A, 'where not a is "x"', Ways(lacking="unlike"), 1),
            (A, 'where a is ""', Ways(lacking="alike", empty="lacks"), 1), (AN, "pick n\npick n", TENS, None),
        ]:
            with self.subTest(text=text, far=str(far)):
                rows = self.sent(columns, text, far)
                self.assertEqual(None if rows is None else len(rows), many)

    def test_each_meeting_step(self):
        for columns, text, far, many in [
            (A, "unlike a", FOLDED, 2), (AN, "unlike a", FOLDED, 2), (AN, "unlike n", FOLDED, None),
            (AN, "unlike a\npick n", FOLDED, 2), (AN, "unlike a n", TENS, 2), (AN, "unlike a", LAST, None),
            (A, 'where a is "x"\nunlike a', FOLDED, 1), (A, "lower a\nunlike a", FOLDED, None),
            (AN, "tally a as c", FOLDED, 2), (AN, "tally n as c", FOLDED, None), (AN, "tally a n as c", TENS, 2),
            (AN, "tally a as n", FOLDED, 2), (AN, "tally a as c", LACKS, 2),
            (A, "order a up", FOLDED, 2), (A, "order a down", FOLDED, 2), (AN, "order n up a up", FOLDED, 2),
            (A, "order a up", LAST, 2), (N, "order n down", LAST, 2), (N, "order n down", FOLDED, None),
            (N, "order n up", TENS, 2), (AN, "order n up\nwhere n is 10", TENS, 1), (A, "order a up", DROPPED, 2),
            (A, "order a up\nlower a", FOLDED, 2), (AN, "order a up\npick n", FOLDED, 2),
            (A, "lower a\norder a up", FOLDED, None), (A, "order a up\nfirst 1", FOLDED, 2),
            (A, "order a up\nfirst 3", FOLDED, 2), (N, "order n up\nfirst 2", FOLDED, None),
            (A, "order a up\nfirst 2", LAST, 2), (A, "first 2", FOLDED, None), (AN, "first 2\nround n", TENS, 1),
            (AN, "first 3\nlower a", TENS, None),
        ]:
            with self.subTest(text=text, far=str(far)):
                rows = self.sent(columns, text, far)
                self.assertEqual(None if rows is None else len(rows), many)

    def test_no_table_of_fewer_rows(self):
        for columns, text, far in [
            (A, "unlike a", FOLDED), (N, "tally n as c", TENS), (A, "order a up\nfirst 2", FOLDED),
            (A, "order a down", LAST), (A, 'where not a is "x"\norder a up\nfirst 1', DROPPED),
            (A, 'unlike a\nwhere a is "x"', BLIND), (N, "order n up\nfirst 2\nwhere n is 5", TENS),
            (A, 'order a up\nfirst 1\nwhere a is "x"', DROPPED),
        ]:
            question = Question.read(columns, text)
            for at in range(len(question) + 1):
                with self.subTest(text=text, at=at):
                    p, q = Plan.cut(question, at), Plan.cut(question, 0)
                    rows = self.found(p, q, far, HOME)
                    fewest = fewest_rows(p, q, far, HOME, [POOLS[columns[0][1]]], 3)
                    self.assertEqual(None if rows is None else len(rows), fewest)

    def test_plans_that_are_equal(self):
        for text in ["", 'where a is "x"', "unlike a n", "order a up\nfirst 2", "tally a as c", "first 1"]:
            question = Question.read(AN, text)
            for at in range(len(question) + 1):
                p = Plan.cut(question, at)
                self.assertIsNone(self.found(p, Plan.cut(question, at), Ways(case="folded", unit=5), HOME))
                self.assertIsNone(self.found(p, Plan.cut(question, 0), HOME, Ways()))

    def test_plans_of_other_questions(self):
        p = read_plan(A, 'where a is "x"', 'where a is "X"')
        self.assertIsNone(self.found(p, read_plan(A, 'where a is "X"', 'where a is "X"'), FOLDED, HOME))
        self.assertEqual(len(self.found(p, read_plan(A, "", 'where a is "x"'), FOLDED, HOME)), 1)
        p, q = read_plan(AN, "pick a", "lower a"), read_plan(AN, "lower a", "pick a")
        self.assertIsNone(self.found(p, q, FOLDED, HOME))
        self.assertIsNone(self.at_home(AN, "pick n a\npick a", "pick a"))
        self.assertIsNone(self.at_home(A, 'where a is "x" or a lacks', 'where a lacks or a is "x"'))
        self.assertIsNone(self.at_home(A, "lower a\ntrim a", "trim a\nlower a"))
        self.assertEqual(len(self.at_home(N, "fill n 5\nround n", "round n\nfill n 5", TENS)), 1)
        self.assertIsNone(self.at_home(N, "fill n 5\nround n", "round n\nfill n 5", HOME))

    def test_mismatch(self):
        for text, other in [
            ("pick a", ""), ("pick a n", "pick n a"), ("tally a as c", "tally a as d"), ("unlike a", ""),
            ("", "first 1"), ("first 1", "first 2"), ("unlike a", "unlike a n"), ("order a up", "order a down"),
            ("order a up", "order a up\nfirst 1"), ("first 1", "order a up\nfirst 1"), ("order a up", "unlike a"),
            ("unlike a n", "unlike n a"), ("order a up", "tally a n as c"),
        ]:
            with self.subTest(text=text, other=other):
                p, q = Question.read(AN, text), Question.read(AN, other)
                for at in range(len(p) + 1):
                    for call in (same, parting):
                        with self.assertRaises(Mismatch):
                            call(Plan.cut(p, at), Plan.cut(q, 0), FOLDED, HOME)
                        with self.assertRaises(Mismatch):
                            call(Plan.cut(q, len(q)), Plan.cut(p, at), FOLDED, HOME)
                with self.assertRaises(Mismatch):
                    alike(p, q, HOME)
        for columns, other in [(A, N), (A, [("a", "number")]), (A, [("b", "text")]), (AN, N + A), (A, AN)]:
            with self.assertRaises(Mismatch):
                same(read_plan(columns, "", ""), read_plan(other, "", ""), HOME, HOME)
            with self.assertRaises(Mismatch):
                alike(Question(columns), Question(other), HOME)
        with self.assertRaises(Mismatch):
            same(read_plan(AN, "pick a", ""), read_plan(A, "", ""), HOME, HOME)
        self.assertTrue(same(read_plan(AN, "pick n a", "pick a"), read_plan(AN, "pick a", ""), HOME, HOME))

    def test_the_whole_questions_meet(self):
        # The Order is sent by one plan and not by the other one, and First stands apart from it in one of them.
        p, q = read_plan(AN, "order n up", "first 2"), read_plan(AN, "", "order n up\nfirst 2")
        self.assertIsNone(self.found(p, q, FOLDED, HOME))
        self.assertEqual(len(self.found(p, q, TENS, HOME)), 2)

    def test_rows_that_stand_ahead_without_an_outcome(self):
        below = "where n below 5"
        for many in (1, 2, 3, 4):
            first = f"first {many}"
            for order in ("", "order a up\n", "order n down\n", "order n up\n"):
                rows = self.at_home(AN, f"{below}\n{order}{first}", f"{order}{first}\n{below}")
                self.assertEqual(len(rows), many + 1)
                self.assertEqual(len(set(rows)), 2)
            # Where lacking cells come last, too, rows below 5 come ahead of all others.
            self.assertIsNone(self.at_home(
                AN, f"{below}\norder n up\n{first}", f"order n up\n{first}\n{below}", LAST,
            ))
        for step, many in [
            ("unlike a", 2), ("unlike n", None), ("unlike a n", None), ("order a up", None), ("order n down", None),
        ]:
            rows = self.at_home(AN, f"{below}\n{step}", f"{step}\n{below}")
            self.assertEqual(None if rows is None else len(rows), many)
        # To this store 4 and 5 are alike, but to its tests, too.
        self.assertIsNone(self.at_home(AN, f"{below}\nunlike n", f"unlike n\n{below}", TENS))
        rows = self.found(read_plan(AN, "", f"{below}\nunlike n"), read_plan(AN, below, "unlike n"), HOME, TENS)
        self.assertEqual(len(rows), 1)

    def test_counted_where_all_answers_are_alike(self):
        # Only rows that come to no answer are ordered in another way, so no fewer rows than n + 1 can tell.
        for many in (1, 2, 3, 4):
            rows = self.sent(AN, f'order a up\nfirst {many}\nwhere a is "x"\npick n', FOLDED, at=1)
            self.assertEqual(len(rows), many + 1)
            rows = self.sent(A, f'order a down\nfirst {many}\nwhere a is "x"', DROPPED, at=2)
            self.assertEqual(len(rows), many + 1)
            rows = self.sent(A, f'order a up\nfirst {many}\nwhere a is "x"\npick a', LAST, at=2)
            self.assertEqual(len(rows), many + 1)

    def test_the_column_that_is_ordered_by_first_decides(self):
        # All answers are 5, and rows that come to none are ahead or behind by n, whatever a is.
        text = "where not n lacks\norder {}\nfirst 1\nwhere n is 5\npick n"
        self.assertIsNone(self.sent(AN, text.format("n down a up"), FOLDED))
        self.assertEqual(len(self.sent(AN, text.format("a up n down"), FOLDED)), 2)
        text = "where not n lacks\norder {}\nfirst 2\nwhere n is 5\npick n"
        self.assertIsNone(self.sent(AN, text.format("n up a down"), FOLDED))
        self.assertEqual(len(self.sent(AN, text.format("a down n up"), FOLDED)), 3)

    def test_a_tally_under_the_name_of_a_column(self):
        self.assertIsNone(self.sent(AN, "round n\ntally a as n", TENS))
        self.assertEqual(len(self.sent(AN, "round n\ntally n a as c", TENS)), 1)
        self.assertIsNone(self.sent(AN, "lower a\nround n\ntally a as n", FOLDED.but(unit=5)))
        self.assertEqual(len(self.sent(AN, "round n\ntally n as a", TENS)), 1)

    def test_rows_with_the_same_outcome_change_places_unseen(self):
        self.assertIsNone(self.sent(A, "order a up\nlower a", Ways(case="folded"), Ways(case="folded", last=False)))
        self.assertIsNone(self.sent(A, 'where a is "x" or a is "X"\norder a up\nlower a', FOLDED))
        self.assertIsNone(self.sent(A, 'where a is "x" or a is "X"\norder a up\nfirst 2\nlower a', FOLDED))
        self.assertEqual(len(self.sent(AN, 'where a is "x" or a is "X"\norder a up\nlower a', FOLDED)), 2)
        self.assertIsNone(self.sent(AN, 'where a is "x" or a is "X"\norder a up\nlower a\npick a', FOLDED))
        self.assertEqual(len(self.sent(A, 'where a is "x" or a is "X"\norder a up', FOLDED)), 2)

    def test_tests_ahead_of_and_behind_where_rows_meet(self):
        for columns, text, far, at, many in [
            (AN, 'where a is "x"\nunlike n\nwhere n below 5', FOLDED, 1, 1),
            (AN, 'unlike n\nwhere a is "x"', FOLDED, 2, 1), (AN, 'unlike n\nwhere a is "x"', FOLDED, 1, None),
            (AN, "where n below 5\nunlike a\nlower a", FOLDED, 1, None),
            (AN, "where n below 5\nunlike a\nlower a", FOLDED, 2, 2),
            (AN, "where n below 5\nunlike a\nlower a", FOLDED, 3, 2),
            (AN, "lower a\nunlike a\nwhere n below 5", FOLDED, 3, None),
            (AN, 'order a up\nwhere a is "x"', FOLDED, 1, None), (AN, 'order a up\nwhere a below "x"', FOLDED, 1, 2),
            (AN, 'where a is "x"\norder a up\nwhere n is 5', FOLDED.but(unit=10), 3, 1),
            (AN, "where n is 5\norder n up\nfirst 3\nwhere n below 6", TENS, 4, 1),
            (AN, "where n below 5\norder n up\nfirst 3\nwhere n lacks", FOLDED, 4, None),
            (AN, 'where not a is "x"\ntally n as c', HOME.but(lacking="unlike"), 2, 1),
        ]:
            with self.subTest(text=text, at=at):
                rows = self.sent(columns, text, far, at=at)
                self.assertEqual(None if rows is None else len(rows), many)


class KindsOfCells(Decided):
    """[23]."""

    def test_texts_that_are_unlike_in_case_alone(self):
        (row,) = self.sent(A, 'where a is "xy"', FOLDED)
        self.assertEqual((row[0].lower(), row[0] == "xy"), ("xy", False))
        (row,) = self.sent(A, 'where not a is "xY"', FOLDED)
        self.assertEqual((row[0].lower(), row[0] == "xY"), ("xy", False))
        one, other = [row[0] for row in self.sent(A, "unlike a", FOLDED)]
        self.assertEqual((one.lower(), one == other), (other.lower(), False))

    def test_texts_that_are_unlike_in_blanks_alone(self):
        for told in ("x", "x ", "", " "):
            (row,) = self.sent(A, f'where a is "{told}"', DROPPED)
            self.assertEqual((row[0].rstrip(), row[0] == told), (told.rstrip(), False))
        one, other = [row[0] for row in self.sent(A, "tally a as c", DROPPED)]
        self.assertEqual((one.rstrip(), one == other), (other.rstrip(), False))

    def test_two_texts_with_more_blanks_than_told(self):
        # Here come only "x" with at least two blanks, and home sees no difference between these.
        text = 'where not a below "x " and a below "xA" and not a is "x "'
        for step in ("unlike a", "order a down", "tally a as c", "order a up\nfirst 1"):
            question = Question.read(A, f"{text}\n{step}")
            rows = self.found(Plan.cut(question, 2), Plan.cut(question, 1), HOME, DROPPED)
            (one,), (other,) = rows
            self.assertEqual((one.rstrip(), other.rstrip()), ("x", "x"))
            self.assertGreater(min(len(one), len(other)), 2)
            self.assertNotEqual(one, other)

    def test_the_empty_text(self):
        for text in ['where a is ""', "where a lacks", 'where a below "x"', 'fill a "x"', 'where not a is "x"']:
            self.assertEqual(self.sent(A, text, LACKS), (("",),), text)
        self.assertIsNone(self.sent(A, 'lower a\ntrim a\nwhere a is "x"', LACKS))
        self.assertEqual(sorted(self.sent(A, "unlike a", LACKS), key=str), [("",), (None,)])
        self.assertIn(("",), self.sent(A, "order a up", LACKS.but(last=True), LAST))
        self.assertEqual(self.sent(A, 'where not a is ""', LACKS, LACKS), None)

    def test_blanks_alone(self):
        for text in ["where a lacks", 'fill a "x"', 'where a is "x" or a lacks']:
            ((cell,),) = self.sent(A, text, LACKS.but(blanks="dropped"), LACKS)
            self.assertEqual((cell.strip(" "), cell == ""), ("", False))
        one, other = [row[0] for row in self.sent(A, "unlike a", LACKS.but(blanks="dropped"), LACKS)]
        self.assertEqual((one or "").rstrip(" "), (other or "").rstrip(" "))
        self.assertIsNone(self.sent(A, "trim a\nwhere a lacks", LACKS.but(blanks="dropped"), LACKS))

    def test_a_told_word_with_capitals_beside_a_lowered_column(self):
        self.assertEqual(self.sent(A, 'lower a\nwhere a is "X"', FOLDED)[0][0].lower(), "x")
        self.assertIsNone(self.at_home(A, 'lower a\nwhere a is "Xy"', 'where a is "x" and a is "y"'))
        self.assertIsNone(self.at_home(A, 'lower a\nwhere a is "Xy"', 'lower a\nwhere a is "xy"', FOLDED))
        self.assertEqual(self.at_home(A, 'where a is "X"\nlower a', 'where a is "x"\nlower a')[0][0].lower(), "x")
        self.assertIsNone(self.at_home(A, 'where a is "X"\nlower a', 'where a is "x"\nlower a', FOLDED))
        # Lowered words are never below a word in capitals, but for the empty text and blanks.
        self.assertIsNone(self.at_home(A, 'lower a\nwhere a below "Zz"', 'lower a\nwhere a below "A"'))
        ((cell,),) = self.at_home(A, 'lower a\nwhere a below "Zz"', 'where a below "Zz"\nlower a')
        self.assertLess(cell, "Zz")
        self.assertIsNone(self.at_home(A, 'lower a\nwhere a below "bC"', 'lower a\nwhere a below "bA"'))

    def test_words_just_above_and_just_below_a_told_one(self):
        # In lower case no word stands between "b" and "ba": "bA" does as it stands, and "b " where blanks are kept.
        one, other = 'where a below "ba"', 'where a below "b" or a is "b"'
        self.assertIsNone(self.at_home(A, one, other, BLIND))
        ((cell,),) = self.at_home(A, one, other, FOLDED)
        self.assertEqual((cell.lower().strip(" "), cell.lower() == "b"), ("b", False))
        ((cell,),) = self.at_home(A, one, other, DROPPED)
        self.assertTrue("bA" <= cell < "ba")
        one, other = 'where not a below "za" or a is "z"', 'where not a below "z"'
        self.assertIsNone(self.at_home(A, one, other, BLIND))
        self.assertIsNotNone(self.at_home(A, one, other, FOLDED))
        # Nothing stands below "a" but the empty text, and nothing above "zz.." without more letters.
        self.assertIsNone(self.at_home(A, 'where a below "a"', 'where a is ""', BLIND))
        self.assertIsNotNone(self.at_home(A, 'where a below "a"', 'where a is ""', FOLDED))
        self.assertIsNone(self.at_home(A, 'where a below "A"', 'where a is ""', DROPPED))
        self.assertIsNotNone(self.at_home(A, 'where a below "B"', 'where a is ""', DROPPED))
        # Between "c" and "d" there are words that are longer, but between "m" and "ma" in lower case there are none.
        self.assertIsNotNone(self.at_home(A, 'where a below "d"', 'where a below "c" or a is "c"', BLIND))
        self.assertIsNotNone(self.at_home(A, 'where a below "zzzz" or a is "zzzz"', "where not a lacks", BLIND))

    def test_words_that_are_longer_than_told_ones(self):
        between = 'where not a below "abcd" and a below "abce" and not a is "abcd" and not a below "abcdA"'
        rows = self.at_home(A, between, 'where not a below "abcd" and a below "abcd"')
        self.assertTrue("abcdA" <= rows[0][0] < "abce")
        # All that comes has more letters than what is told; home does not look at case.
        between = 'where not a below "abcd" and a below "abce" and not a is "abcd"'
        for step in ("unlike a", "order a up", "order a down", "order a up\nfirst 1", "tally a as c"):
            question = Question.read(A, f"{between}\ntrim a\n{step}")
            (one,), (other,) = self.found(Plan.cut(question, 3), Plan.cut(question, 2), HOME, FOLDED)
            self.assertTrue(one.startswith("abcd") and other.startswith("abcd"))
            self.assertNotEqual(one.rstrip(), other.rstrip())
        rows = self.at_home(AN, f"{between}\nlower a\norder a up\npick n", f"{between}\norder a up\npick n")
        (one, _), (other, _) = rows
        self.assertNotEqual(compared(one, other), compared(one.lower(), other.lower()))
        self.assertTrue(len(one.rstrip()) > 4 and len(other.rstrip()) > 4)

    def test_two_words_that_are_ordered_in_opposite_ways(self):
        question = Question.read(AN, 'where a is "B" or a is "a"\norder a up\nfirst 1\npick n')
        rows = self.found(Plan.cut(question, 2), Plan.cut(question, 1), HOME, FOLDED)
        self.assertEqual(sorted(row[0] for row in rows), ["B", "a"])
        self.assertIsNone(self.found(Plan.cut(question, 2), Plan.cut(question, 1), HOME, DROPPED))
        question = Question.read(AN, 'where a is "B" or a is "b"\norder a up\npick n')
        rows = self.found(Plan.cut(question, 2), Plan.cut(question, 1), HOME, FOLDED)
        self.assertEqual([row[0] for row in rows], ["b", "B"])
        question = Question.read(AN, 'where a is "b" or a is "b "\norder a down\npick n')
        rows = self.found(Plan.cut(question, 2), Plan.cut(question, 1), HOME, DROPPED)
        self.assertEqual([row[0] for row in rows], ["b", "b "])

    def test_numbers_midway_at_each_unit(self):
        for unit, one, other in product(CHOICES["unit"], CHOICES["halves"], CHOICES["halves"]):
            far, home = Ways(unit=unit, halves=one), Ways(unit=unit, halves=other)
            for ahead, comes in [
                ("", lambda seen: True), ("where n below 0\n", lambda seen: seen < 0),
                ("where not n below 0\n", lambda seen: seen >= 0),
            ]:
                question = Question.read(N, f"{ahead}round n")
                rows = self.found(
                    Plan.cut(question, len(question)), Plan.cut(question, len(question) - 1), far, home,
                )
                numbers = [number for number in range(-60, 61) if comes(far.rounded(number))]
                is_same = all(far.rounded(number) == home.rounded(number) for number in numbers)
                with self.subTest(ahead=ahead, far=str(far), home=str(home)):
                    self.assertEqual(rows is None, is_same)

    def test_numbers_near_to_told_ones(self):
        for told, one, other in product([99985, 15, -25], CHOICES["halves"], CHOICES["halves"]):
            for unit in (2, 5, 10):
                far, home = Ways(unit=unit, halves=one), Ways(unit=unit, halves=other)
                exact = Ways(halves=other)
                seen = far.seen(told)
                numbers = range(told - 30, told + 31)
                for verb, test in [("is", lambda a, b: a == b), ("below", lambda a, b: a < b)]:
                    rows = self.sent(N, f"where n {verb} {told}", far, home)
                    is_same = all(
                        test(far.rounded(number), seen) == test(home.rounded(number), home.seen(told))
                        for number in numbers
                    )
                    self.assertEqual(rows is None, is_same, (told, verb, str(far), str(home)))
                    rows = self.sent(N, f"where n {verb} {told}", far, exact)
                    is_same = all(test(far.rounded(number), seen) == test(number, told) for number in numbers)
                    self.assertEqual(rows is None, is_same, (told, verb, str(far), str(exact)))

    def test_numbers_far_from_told_ones(self):
        up, even = Ways(unit=10, halves="up"), Ways(unit=10, halves="even")
        for text, low, high in [
            ("where not n below 100000", 99995, 10**6), ("where n below -100000", -10**6, -100005),
            ("where not n below 100 and n below 100000", 95, 99995),
            ("where not n below -99990 and n below -70", -99995, -74),
        ]:
            question = Question.read(N, f"{text}\nround n")
            ((number,),) = self.found(Plan.cut(question, 2), Plan.cut(question, 1), up, even)
            self.assertTrue(low <= number <= high)
            self.assertNotEqual(up.rounded(number), even.rounded(number))
        # There is no such number among those that come.
        question = Question.read(N, "where not n below 10000 and n below 10010\nround n")
        self.assertIsNotNone(self.found(Plan.cut(question, 2), Plan.cut(question, 1), up, even.but(unit=5)))
        question = Question.read(N, "where n is 10010\nround n")
        self.assertIsNotNone(self.found(Plan.cut(question, 2), Plan.cut(question, 1), up, even))
        question = Question.read(N, "where n is 10001\nround n")
        self.assertIsNone(self.found(Plan.cut(question, 2), Plan.cut(question, 1), Ways(), Ways(unit=1, halves="up")))

    def test_numbers_that_are_rounded_twice(self):
        far, home = Ways(unit=2, halves="up"), Ways(unit=5)
        self.assertEqual(len(self.sent(N, "round n\nround n", far, home, at=1)), 1)
        self.assertIsNone(self.sent(N, "round n\nround n", home, home, at=1))
        self.assertIsNone(self.sent(N, "round n\nround n", Ways(unit=5, halves="up"), home, at=1))
        self.assertIsNone(self.at_home(N, "round n\nround n", "round n", far))
        for unit, other in product((1, 2, 5, 10), (1, 2, 5, 10)):
            far, home = Ways(unit=unit, halves="up"), Ways(unit=other, halves="cut")
            p, q = read_plan(N, "round n", "round n"), read_plan(N, "", "round n")
            is_same = all(home.rounded(far.rounded(number)) == home.rounded(number) for number in range(-60, 61))
            self.assertEqual(self.found(p, q, far, home) is None, is_same)

    def test_two_numbers(self):
        one, other = [row[0] for row in self.sent(N, "unlike n", TENS)]
        self.assertEqual((TENS.rounded(one), one == other), (TENS.rounded(other), False))
        for text, low, high in [
            ("where not n below 99990", 99990, 10**6), ("where n below -99990", -10**6, -99991),
            ("where not n below 100 and n below 120", 100, 119), ("where n below 16 and not n below 13", 13, 15),
        ]:
            for step in ("unlike n", "order n up", "order n down", "tally n as c", "order n up\nfirst 1"):
                question = Question.read(N, f"{text}\n{step}")
                rows = self.found(Plan.cut(question, 2), Plan.cut(question, 1), HOME, TENS)
                (one,), (other,) = rows
                self.assertTrue(low <= one <= high and low <= other <= high and one != other)
                self.assertEqual(TENS.rounded(one), TENS.rounded(other))
        # Two numbers that come here are never alike to the one store alone.
        for text in ("where n is 15", "where not n below 15 and n below 17 and not n is 16"):
            question = Question.read(N, f"{text}\nunlike n")
            self.assertIsNone(self.found(Plan.cut(question, 2), Plan.cut(question, 1), HOME, TENS))

    def test_two_numbers_beside_each_told_one(self):
        stores = [Ways(unit=10, halves=halves) for halves in CHOICES["halves"]]
        stores += [Ways(unit=5, halves="cut"), Ways(unit=2)]
        for told, (far, home) in product([80, 94, -15, 99980], product(stores, stores)):
            question = Question.read(N, f"where not n below {told} and not n is {told}\nunlike n")
            numbers = [each for each in range(told - 5, told + 60) if far.rounded(each) > far.rounded(told)]
            is_same = all(
                far.alike(one, other) == home.alike(one, other) for one, other in zip(numbers, numbers[1:])
            )
            with self.subTest(told=told, far=str(far), home=str(home)):
                rows = self.found(Plan.cut(question, 2), Plan.cut(question, 1), far, home)
                self.assertEqual(rows is None, is_same)

    def test_two_numbers_that_are_far_apart(self):
        # Rows that come to no answer, and are far from the others in their order, can take their places.
        for low, high in [(-100000, 100000), (5, 2000), (-300, -20)]:
            below, above = f"where n below {low}", f"where not n below {high}"
            for way, ahead, behind in [("up", below, above), ("down", above, below)]:
                both, two = f"where n below {low} or not n below {high}", f"order n {way}\nfirst 2"
                self.assertIsNone(self.at_home(N, f"{both}\n{two}\n{ahead}", f"{ahead}\n{two}"))
                rows = self.at_home(N, f"{both}\n{two}\n{behind}", f"{behind}\n{two}")
                self.assertEqual(len(rows), 3)
                self.assertEqual([row[0] < low for row in rows].count(way == "up"), 2)

    def test_a_number_that_is_far_ahead_of_another_one(self):
        # Of the rows that come to no answer those below -1000 alone come ahead of 1000.
        both = "where n below -1000 or (not n below 1000 and not n is 1000) or n lacks or n is 1000"
        two = "order n up\nfirst 1\nwhere n is 1000"
        (one,), (other,) = self.at_home(N, f"{both}\n{two}", f"where n is 1000\n{two}", LAST)
        self.assertLess(min(one, other), -1000)
        self.assertEqual(max(one, other), 1000)

    def test_cells_that_are_told_in_a_fill_alone(self):
        # A lacking cell is 777 or 780 in the end, and other ones are multiples of ten.
        NA = N + A
        p = read_plan(NA, "round n\nfill n 777", "unlike n\npick a")
        q = read_plan(NA, "fill n 777\nround n", "unlike n\npick a")
        rows = self.found(p, q, TENS, HOME)
        self.assertEqual(sorted(TENS.seen(row[0]) or 0 for row in rows), [0, 780])
        p = read_plan(AN, 'lower a\nfill a "mNn"', "unlike a\npick n")
        q = read_plan(AN, 'fill a "mNn"\nlower a', "unlike a\npick n")
        rows = self.found(p, q, FOLDED, HOME)
        self.assertEqual(sorted((row[0] or "").lower() for row in rows), ["", "mnn"])

    def test_lacking_cells_first_and_last(self):
        for columns in (A, N):
            name = columns[0][0]
            for way in ("up", "down"):
                rows = self.sent(columns, f"order {name} {way}", LAST)
                self.assertEqual(sorted(row[0] is None for row in rows), [False, True])
                rows = self.sent(columns, f"order {name} {way}\nfirst 1", HOME, LAST)
                self.assertEqual(sorted(row[0] is None for row in rows), [False, True])
            self.assertIsNone(self.sent(columns, f"where not {name} lacks\norder {name} up", LAST))
            self.assertIsNone(self.sent(columns, f"where {name} lacks\norder {name} up", LAST))
            self.assertIsNone(self.sent(columns, f"unlike {name}", LAST))



class CutsAndMore(Decided):
    """[24]."""

    def test_cuts(self):
        for columns, text, far, home, numbers in [
            (AN, 'where n below 5\nwhere a is "x"\nlower a', FOLDED, HOME, (0, 1)),
            (AN, "order a up\nfirst 1\npick n", TENS, HOME, (0, 1, 2, 3)),
            (AN, "", FOLDED, HOME, (0,)), (AN, "lower a\ntrim a\npick a\nunlike a", FOLDED, HOME, (0, 1, 2, 3, 4)),
            (A, 'where a is "x"', FOLDED, HOME, (0,)), (A, 'where a is "x"\nlower a', DROPPED, FOLDED, (0,)),
            (A, 'where a is "x"\nwhere a below "b"', FOLDED, HOME, (0, 2)),
            (A, 'lower a\nwhere a is "x"\nwhere a below "b"', FOLDED, HOME, (0, 1, 2, 3)),
            (N, "round n", TENS, HOME, (0,)), (AN, "round n\npick a", TENS, HOME, (0, 1, 2)),
            (AN, "round n\nwhere n is 5\npick a", TENS, HOME, (0,)),
            (AN, "round n\npick a", TENS, TENS, (0, 1, 2)), (A, "order a up\nfirst 2", LAST, HOME, (0,)),
            (A, 'order a up\nwhere a is "x"', FOLDED, HOME, (0, 1)), (A, "tally a as c", LACKS, HOME, (0,)),
            (AN, "first 2\nwhere n below 5", TENS, HOME, (0, 1)), (A, 'fill a "x"\nwhere a is "x"', LACKS, HOME, (0,)),
            (A, 'where a is "x" or a lacks\nwhere a is "x"', FOLDED.but(empty="lacks"), HOME, (0, 1)),
            (A, 'where a is "x" or a lacks\nwhere a is "x"', LACKS, HOME, (0, 1, 2)),
        ]:
            with self.subTest(text=text, far=str(far)):
                question = Question.read(columns, text)
                self.assertEqual(cuts(question, far, home), numbers)
                whole = Plan.cut(question, 0)
                found = [at for at in range(len(question) + 1) if same(Plan.cut(question, at), whole, far, home)]
                self.assertEqual(numbers, tuple(found))

    def test_alike(self):
        for text, other, ways, is_alike in [
            ('where a is "x"', 'where a is "X"', FOLDED, True), ('where a is "x"', 'where a is "X"', HOME, False),
            ("unlike a", "lower a\nunlike a\nlower a", HOME, False), ("lower a\nlower a", "lower a", HOME, True),
            ("lower a\nunlike a", "unlike a\nlower a", FOLDED, True),
            ("first 2\ntrim a", "trim a\nfirst 2", HOME, True),
            ("lower a\nunlike a", "unlike a\nlower a", HOME, False), ("round n", "", HOME, True),
            ("round n", "", TENS, False), ('where a is "x"\nfirst 1', 'first 1\nwhere a is "x"', HOME, False),
            ("", 'where a lacks or not a lacks', HOME, True), ("", 'where a is "x" or not a is "x"', HOME, False),
            ("", 'where a is "x" or not a is "x"', HOME.but(lacking="alike"), True),
        ]:
            with self.subTest(text=text, other=other):
                p, q = Question.read(AN, text), Question.read(AN, other)
                self.assertIs(alike(p, q, ways), is_alike)
                self.assertIs(alike(q=p, p=q, ways=ways), is_alike)
                for table in [] if not is_alike else some_tables(AN, told_in(p >> Question(AN)), 60):
                    self.assertEqual(p.run(table, ways), q.run(table, ways))

    def test_needless(self):
        for columns, text, ways, numbers in [
            (A, "lower a\nlower a", HOME, (0, 1)), (A, 'where a is "x"\nlower a', HOME, (1,)),
            (A, 'where a is "x"\nlower a', FOLDED, ()), (A, 'where a is "x"\ntrim a\nwhere a is "x"', HOME, (1, 2)),
            (A, "", HOME, ()), (A, "lower a", HOME, ()), (N, "round n", HOME, (0,)), (N, "round n", TENS, ()),
            # Meeting steps are left out of account, whatever they do.
            (A, "unlike a", HOME, ()), (A, 'where a is "x"\nunlike a', HOME, ()), (A, "order a up", HOME, ()),
            (A, "lower a\norder a up\nfirst 2\nlower a", HOME, (3,)),
            (A, "lower a\norder a up\nfirst 2\nlower a", FOLDED, (0, 3)),
            (AN, "round n\ntally n as c", HOME, (0,)), (AN, "lower a\ntally a as c", FOLDED, ()),
            # Without a Pick the columns in the end may be others.
            (AN, "pick a", HOME, ()), (AN, "pick a n\nround n", HOME, (0, 1)), (AN, "pick n a", HOME, ()),
            (AN, "pick n a\npick a", HOME, (0,)), (AN, "pick a\npick a", HOME, (0, 1)),
            (AN, "pick a\ntally a as c", HOME, (0,)), (AN, "pick a\nunlike a", HOME, ()),
            (AN, 'where n below 5\nwhere n below 6\nwhere a is "x"', HOME, (1,)),
            (AN, "where n below 5\nwhere n below 6", TENS, (1,)),
            (A, 'fill a "x"\nwhere not a lacks', HOME, (1,)), (A, 'where not a lacks\nfill a "x"', HOME, (1,)),
            (A, 'where a is "x" or a lacks\nfill a "x"\nwhere a is "x"', HOME, (0, 2)),
        ]:
            with self.subTest(text=text, ways=str(ways)):
                self.assertEqual(needless(Question.read(columns, text), ways), numbers)

    def test_matters(self):
        for columns, text, home, names in [
            (AN, "order a up\nfirst 1\npick n", HOME, ("case", "blanks", "empty", "last")),
            (A, "", HOME, ()), (A, "first 2", HOME, ()), (AN, "lower a\ntrim a\npick a", HOME, ()),
            (A, 'where a is "x"', HOME, ("case", "blanks")), (A, 'where a is "x"', FOLDED, ("case", "blanks")),
            (A, 'where not a is "x"', HOME, ("case", "blanks", "empty", "lacking")),
            (A, 'where not a is "x"', HOME.but(lacking="unlike"), ("case", "blanks", "lacking")),
            (A, 'where a is ""', HOME, ("blanks", "empty")), (A, 'where a is ""', LACKS, ("empty", "lacking")),
            (A, 'where a is ""', LACKS.but(lacking="alike"), ("blanks", "empty", "lacking")),
            (A, "where a lacks", HOME, ("empty",)), (A, "where a lacks", LACKS, ("blanks", "empty")),
            (A, 'where a below "x"', HOME, ("case", "empty")),
            (A, 'where a below "x "', HOME, ("case", "blanks", "empty")),
            (A, "trim a\nlower a\nunlike a", HOME, ("empty",)), (A, "unlike a", HOME, ("case", "blanks", "empty")),
            (A, "order a down", LAST, ("case", "blanks", "empty", "last")), (N, "order n up", HOME, ("last", "unit")),
            (N, "where not n lacks\norder n up", HOME, ("unit",)), (N, "unlike n", TENS, ("unit", "halves")),
            (N, "round n", HOME, ("unit",)), (N, "round n", TENS, ("unit", "halves")),
            (N, "round n", Ways(unit=5, halves="up"), ("unit", "halves")), (N, "where n is 3", HOME, ("unit",)),
            (N, "where n is 3 or not n is 3", HOME, ("lacking",)), (N, "where n lacks", HOME, ()),
            (AN, "round n\npick a", TENS, ()), (N, "fill n 5", HOME, ()), (A, 'fill a "x"', HOME, ("empty",)),
            (AN, 'where not a is "x"\nround n\norder a up', TENS,
             ("case", "blanks", "empty", "lacking", "unit", "halves")),
            (AN, 'where not a is "x" or a lacks\nround n\norder a up', TENS.but(lacking="alike"),
             ("case", "blanks", "empty", "last", "unit", "halves")),
        ]:
            with self.subTest(text=text, home=str(home)):
                self.assertEqual(matters(Question.read(columns, text), home), names)

    def test_every_rule_matters_at_once(self):
        question = Question.read(AN, 'where not a is "x" or a lacks and n is 5\nround n\norder n up a up'.replace(
            "a lacks and n is 5", "(a lacks and n is 5)",
        ))
        for home in (TENS, TENS.but(last=True), Ways(case="folded", blanks="dropped", unit=5, halves="cut")):
            self.assertEqual(matters(question, home), tuple(CHOICES))

    def test_matters_is_what_parts_for_some_choice(self):
        for text in ['where not a is "x "\nunlike a', "order n up a down\nfirst 2", 'fill a ""\ntally a n as c']:
            question = Question.read(AN, text)
            sent, unsent = Plan.cut(question, len(question)), Plan.cut(question, 0)
            for home in (HOME, TENS.but(last=True), LACKS.but(blanks="dropped", lacking="alike")):
                found = []
                for name, choices in CHOICES.items():
                    stores = [home.but(**{name: choice}) for choice in choices]
                    if not all(same(sent, unsent, far, home) for far in stores):
                        found.append(name)
                self.assertEqual(matters(question, home), tuple(found))


class Runs(Decided):
    """What is decided beside runs on many tables."""

    def test_random_plans(self):
        sizes = {}
        for seed in range(220):
            maker = Maker(seed)
            question = maker.question()
            other = question if seed % 2 else maker.question()
            p, q = maker.plan(question), maker.plan(other)
            with self.subTest(seed=seed):
                rows = self.found(p, q, maker.far, maker.home)
                size = 0 if rows is None else len(rows)
                sizes[size] = sizes.get(size, 0) + 1
                if size != 1:
                    for table in some_tables(maker.columns, maker.told, 60, most=6 if size == 0 else size - 1):
                        self.assertFalse(parts(p, q, maker.far, maker.home, table), str(table))
        # Both answers, and all sizes, are among them.
        self.assertTrue(sizes[0] > 40 and sizes[1] > 40 and sizes[2] > 5, sizes)

    def test_random_questions(self):
        for seed in range(1000, 1040):
            maker = Maker(seed)
            question = maker.question()
            cut_at, left_out = cuts(question, maker.far, maker.home), needless(question, maker.home)
            names = matters(question, maker.home)
            self.assertEqual((cut_at[0], list(cut_at), list(left_out)), (0, sorted(cut_at), sorted(left_out)))
            self.assertEqual([name for name in CHOICES if name in names], list(names))
            rules = [(name, choice) for name in CHOICES if name not in names for choice in CHOICES[name]]
            stores = [maker.home.but(**{name: choice}) for name, choice in rules]
            for table in some_tables(maker.columns, maker.told, 40):
                with self.subTest(seed=seed, table=str(table)):
                    answer = question.run(table, maker.home)
                    for at in cut_at:
                        self.assertEqual(Plan.cut(question, at).run(table, maker.far, maker.home), answer)
                    for at in left_out:
                        self.assertEqual(question.without(at).run(table, maker.home), answer)
                    for far in stores:
                        self.assertEqual(question.run(table, far), answer)


class Limits(unittest.TestCase):
    """[3]: the greatest sizes; and that nothing hangs on the calls made before ([2])."""

    LARGE = [
        'where (a is "mNoP" or n below 99997) and (not a below "MnOq " or a lacks) and not (n is 99997 and a lacks)\n'
        'round n\nlower a\nfill a "mNoP"\norder a up n down\nfirst 4\n'
        'where (a is "mNoP" and n below 99997) or not (a below "MnOq " or n is 99997) or n lacks\ntrim a',
        'where (a is "mNoP" or b below "xYzA") and (not a below "MnOq " or b lacks) and not b is "xYzA"\n'
        'trim a\nlower b\nfill a "mNoP"\nwhere not (a is "MnOq " or b is "xYzA")\n'
        "order b up a down\nfirst 3\npick m n b",
        "where (n is 99995 or m below -99985) and (not n below 15 or m lacks)\nround n\nround m\n"
        "where n is 15 or m is -99985\nfill n 15\nunlike n m\nwhere n below 99995 or m below -99985\npick a n m",
        'where n below -99999 or a is "aBcD"\nround n\ntrim a\nfill n 100000\nlower a\nwhere not a below "aBcD"\n'
        'where n is 100000 or not a is "aBcD"\ntally n a as c',
    ]
    STORES = [
        (Ways(), Ways(case="folded", blanks="dropped", empty="lacks", lacking="alike", unit=5, halves="cut")),
        (Ways(case="folded", unit=10, halves="up", last=True), Ways(blanks="dropped", unit=2)),
        (Ways(), Ways(lacking="unlike")),
    ]

    def test_greatest_sizes(self):
        columns = [("a", "text"), ("n", "number"), ("b", "text"), ("m", "number")]
        for text, (far, home) in zip(self.LARGE, [*self.STORES, *self.STORES]):
            question = Question.read(columns, text)
            self.assertEqual(len(question), 8)
            sent, unsent = Plan.cut(question, 8), Plan.cut(question, 0)
            calls = [
                lambda: parting(sent, unsent, far, home), lambda: cuts(question, far, home),
                lambda: alike(question, question, far), lambda: needless(question, home),
                lambda: matters(question, home), lambda: same(Plan.cut(question, 4), unsent, far, home),
            ]
            first, seconds = timed(calls)
            self.assertLess(seconds, 10)
            self.assertEqual([call() for call in calls[::-1]], first[::-1])

    def test_four_columns_of_which_two_are_told(self):
        columns = [("a", "text"), ("b", "text"), ("c", "text"), ("d", "text")]
        question = Question.read(columns, 'where a is "x"\npick d c b\norder b up\nfirst 4\npick c')
        self.assertEqual(cuts(question, FOLDED, HOME), (0,))
        found = parting(Plan.cut(question, 5), Plan.cut(question, 1), HOME, FOLDED)
        self.assertEqual((len(found), found.columns), (2, tuple(columns)))

    def test_a_first_that_counts_far(self):
        question = Question.read(A, "first 1000000\nlower a")
        self.assertEqual(cuts(question, FOLDED, HOME), (0, 1, 2))

    def test_somewhat_beyond_the_limits(self):
        columns = [("a", "text"), ("n", "number"), ("b", "text")]
        for text in [
            'where a is "AbCdEfGhIj" or a below "abcdefghi " or a is "          "\nunlike a',
            'where a is "x" or n is 1000000 or b below "x"\norder n up a down b up', "where n is -1000000\nround n",
        ]:
            question = Question.read(columns, text)
            sent, unsent = Plan.cut(question, len(question)), Plan.cut(question, 0)
            for far in (FOLDED, TENS, DROPPED):
                found = parting(sent, unsent, far, HOME)
                self.assertEqual(found is None, len(question) in cuts(question, far, HOME))
                self.assertTrue(found is None or parts(sent, unsent, far, HOME, found))


if __name__ == "__main__":
    unittest.main()

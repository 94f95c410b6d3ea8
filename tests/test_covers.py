"""Promises [25] to [28]: rows that get lost, covers, and mended plans."""

import unittest
from itertools import permutations, product

from sentparts.conditions import Below, Is, Lacks, Not, read_test
from sentparts.covers import cover, is_exact, keeps, lost, mend
from sentparts.deciding import cuts, same
from sentparts.errors import Mismatch
from sentparts.plans import Plan
from sentparts.questions import Question
from sentparts.steps import Where
from sentparts.tables import Table
from sentparts.ways import Ways
from tests.running import Maker, near_cells, some_tables, timed, told_in
from tests.values import CHOICES

A, N = (("a", "text"),), (("n", "number"),)
AN = A + N
FOUR = (("b", "text"), ("n", "number"), ("m", "number"), ("a", "text"))
HOME, FOLDED, TENS = Ways(), Ways(case="folded"), Ways(unit=10)
DROPPED, LACKS = Ways(blanks="dropped"), Ways(empty="lacks")
UNLIKE, ALIKE = Ways(lacking="unlike"), Ways(lacking="alike")


def all_rows(columns, told):
    """All rows of cells that are near to those told."""
    return list(product(*[near_cells(sort, told.get(name, [])) for name, sort in columns]))


def told_by(*tests):
    """For each column the cells that tests tell."""
    told = {}
    for atom in [atom for test in tests for atom in test.atoms if not isinstance(atom, Lacks)]:
        told.setdefault(atom.column, []).append(atom.cell)
    return told


def is_true(test, row, columns, ways):
    return test.truth({name: cell for (name, _), cell in zip(columns, row)}, ways) is True


class Losing(unittest.TestCase):
    """[25]."""

    def check(self, test, ways, other, beside, columns, is_kept):
        test, other = read_test(test), read_test(other)
        row = lost(test, ways, other, beside, columns)
        self.assertIs(keeps(test, ways, other, beside, columns), row is None)
        self.assertIs(row is None, is_kept, (str(test), str(other), str(ways), str(beside), row))
        if row is None:
            for each in all_rows(columns, told_by(test, other)):
                self.assertFalse(is_true(test, each, columns, ways) and not is_true(other, each, columns, beside), each)
        else:
            self.assertIsInstance(row, tuple)
            self.assertEqual(Table(columns, [row]).rows, (row,))
            self.assertTrue(is_true(test, row, columns, ways))
            self.assertFalse(is_true(other, row, columns, beside))

    def test_one_column(self):
        for test, ways, other, beside, is_kept in [
            ('a is "x"', HOME, 'a is "x"', HOME, True), ('a is "x"', HOME, 'a is "x"', FOLDED, True),
            ('a is "x"', FOLDED, 'a is "x"', HOME, False), ('not a is "x"', HOME, 'not a is "x"', FOLDED, False),
            ('not a is "x"', FOLDED, 'not a is "x"', HOME, True), ('a is "x"', HOME, 'not a is "y"', HOME, True),
            ('a is "x"', HOME, 'a is "y"', HOME, False), ('a is "x"', HOME, 'a is "X"', FOLDED, True),
            ('a below "b"', HOME, 'a below "c"', HOME, True), ('a below "c"', HOME, 'a below "b"', HOME, False),
            ('a below "b" or a is "b"', FOLDED.but(blanks="dropped"), 'a below "ba"', FOLDED.but(blanks="dropped"),
            True),
            ('a below "ba"', FOLDED.but(blanks="dropped"), 'a below "b" or a is "b"', FOLDED.but(blanks="dropped"),
            True),
            ('a below "ba"', HOME, 'a below "b" or a is "b"', HOME, False),
            ("a lacks", HOME, "a lacks", LACKS, True), ("a lacks", LACKS, "a lacks", HOME, False),
            ("not a lacks", LACKS, "not a lacks", HOME, True), ('a is ""', HOME, "a lacks", LACKS, True),
            ('a is ""', LACKS, "a lacks", HOME, True), ('a is ""', LACKS.but(lacking="alike"), "a lacks", HOME, False),
            ('not a is "x"', UNLIKE, 'not a is "x"', HOME, False), ('not a is "x"', HOME, 'not a is "x"', UNLIKE, True),
            ('not a is "x"', UNLIKE, 'not a is "x" or a lacks', HOME, True),
            ("a lacks and not a lacks", HOME, 'a is "x" and not a is "x"', HOME, True),
            ('a is "x "', DROPPED, 'a is "x"', HOME, False), ('a is "x "', HOME, 'a is "x"', DROPPED, True),
        ]:
            with self.subTest(test=test, ways=str(ways), other=other, beside=str(beside)):
                self.check(test, ways, other, beside, A, is_kept)

    def test_numbers(self):
        for test, ways, other, beside, is_kept in [
            ("n is 5", HOME, "n is 5", TENS, True), ("n is 5", TENS, "n is 5", HOME, False),
            ("n below 5", HOME, "n below 5", TENS, False), ("n below 5", HOME, "n below 6", TENS, True),
            ("n below 15", TENS, "n below 15", HOME, True), ("n below 25", TENS, "n below 25", HOME, True),
            ("n below 26", TENS, "n below 26", HOME, True), ("n below 26", TENS, "n below 25", HOME, False),
            ("n is 99990", TENS, "not n below 99985", HOME, True),
            ("n is 99990", TENS, "not n below 99986", HOME, True),
            ("n is 99990", TENS, "not n below 99987", HOME, False), ("n lacks", HOME, "n lacks", LACKS, True),
            ("n is 5", Ways(unit=10, halves="up"), "n below 15", HOME, True),
            ("n is 5", Ways(unit=10, halves="up"), "n below 14", HOME, False),
        ]:
            with self.subTest(test=test, ways=str(ways), other=other, beside=str(beside)):
                self.check(test, ways, other, beside, N, is_kept)

    def test_more_columns_and_other_ones(self):
        for test, ways, other, beside, is_kept in [
            ('a is "x" and n is 5', HOME, 'a is "x"', FOLDED, True),
            ('a is "x"', HOME, 'a is "x" and n is 5', FOLDED, False),
            ('a is "x" or n is 5', HOME, 'a is "x" or n is 5', FOLDED.but(unit=10), True),
            ('a is "x" or n is 5', FOLDED, 'n is 5 or a is "x"', TENS, False),
            ("n is 5", HOME, 'a is "x" or n below 6', HOME, True),
            ("n is 5", HOME, 'a is "x"', HOME, False), ("n is 5", HOME, 'a lacks or not a lacks', HOME, True),
        ]:
            for columns in (AN, N + A, FOUR):
                with self.subTest(test=test, other=other, columns=columns):
                    row = lost(read_test(test), ways, read_test(other), beside, columns)
                    self.assertIs(row is None, is_kept)
                    self.assertIs(keeps(read_test(test), ways, read_test(other), beside, list(columns)), is_kept)
                    if row is not None:
                        self.assertEqual(Table(columns, [row]).rows, (row,))
                        self.assertTrue(is_true(read_test(test), row, columns, ways))
                        self.assertFalse(is_true(read_test(other), row, columns, beside))

    def test_arguments_by_name(self):
        test = Is("a", "x")
        told = {"test": test, "ways": HOME, "other": test, "beside": FOLDED, "columns": list(A)}
        self.assertIsNone(lost(**told))
        self.assertTrue(keeps(**told))
        told = {"test": test, "home": HOME, "far": FOLDED, "columns": list(A)}
        self.assertEqual(cover(**told), cover(test, HOME, FOLDED, A))
        self.assertFalse(is_exact(**told))

    def test_mismatch(self):
        right = Is("a", "x")
        for wrong in [
            Is("b", "x"), Below("b", 5), Lacks("b"), Is("a", 5), Below("a", 0), Is("n", "x"), Below("n", ""),
            right & Lacks("b"), Not(right | Is("n", "x")), right & (Lacks("n") | Is("a", -1)),
        ]:
            with self.subTest(str(wrong)):
                for call in (lost, keeps):
                    with self.assertRaises(Mismatch):
                        call(wrong, HOME, right, FOLDED, AN)
                    with self.assertRaises(Mismatch):
                        call(right, HOME, wrong, FOLDED, AN)
                    with self.assertRaises(Mismatch):
                        call(right & Not(right), HOME, wrong, FOLDED, AN)
                for call in (cover, is_exact):
                    with self.assertRaises(Mismatch):
                        call(wrong, HOME, FOLDED, AN)
        for test, columns in [(right, N), (Lacks("n"), A), (Is("n", 5), (("n", "text"),)), (right, (("a", "number"),))]:
            with self.assertRaises(Mismatch):
                cover(test, HOME, FOLDED, columns)
        self.assertTrue(keeps(Lacks("n"), HOME, Lacks("n"), HOME, (("n", "text"),)))

    def test_random_tests(self):
        for seed in range(60):
            maker = Maker(seed)
            test, other = maker.test(2), maker.test(2)
            with self.subTest(seed=seed):
                row = lost(test, maker.home, other, maker.far, maker.columns)
                if row is not None:
                    self.assertTrue(is_true(test, row, maker.columns, maker.home))
                    self.assertFalse(is_true(other, row, maker.columns, maker.far))
                else:
                    for table in some_tables(maker.columns, maker.told, 60):
                        for each in table.rows:
                            self.assertFalse(
                                is_true(test, each, maker.columns, maker.home)
                                and not is_true(other, each, maker.columns, maker.far)
                            )


class Covering(unittest.TestCase):
    """[26] and [27]."""

    def check(self, test, home, far, columns, exact=None):
        """Looks at the cover of a test beside all rows of kinds of cells."""
        found = cover(test, home, far, columns)
        names = [Lacks(name) for name in test.columns]
        self.assertLessEqual({atom.text for atom in found.atoms}, {atom.text for atom in [*test.atoms, *names]})
        rows = all_rows([column for column in columns if column[0] in test.columns], told_by(test))
        asked = [column for column in columns if column[0] in test.columns]
        seen = [
            tuple(atom.truth(dict(zip([name for name, _ in asked], row)), far) for atom in [*test.atoms, *names])
            for row in rows
        ]
        wanted = {look for row, look in zip(rows, seen) if is_true(test, row, asked, home)}
        is_least = True
        for row, look in zip(rows, seen):
            self.assertIs(is_true(found, row, asked, far), look in wanted, (str(test), str(found), row))
            is_least = is_least and (look not in wanted or is_true(test, row, asked, home))
        self.assertIs(is_exact(test, home, far, columns), is_least, (str(test), str(home), str(far)))
        self.assertTrue(keeps(test, home, found, far, columns))
        if exact is not None:
            self.assertIs(is_least, exact)

    def test_one_text_column(self):
        for test, home, far, exact in [
            ('a is "x"', HOME, HOME, True), ('a is "x"', HOME, FOLDED, False), ('a is "x"', FOLDED, HOME, False),
            ('not a is "x"', HOME, FOLDED, False), ('not a is "x"', FOLDED, HOME, False),
            ("a lacks", HOME, LACKS, False),
            ("a lacks", LACKS, HOME, False), ('a is "x" or a lacks', HOME, UNLIKE, True),
            ("not a lacks", HOME, UNLIKE, True),
            ('not a is "x"', UNLIKE, HOME, True), ('not a is "x"', HOME, UNLIKE, True), ('a is ""', HOME, LACKS, False),
            ('a is ""', LACKS, HOME, True), ('a is ""', LACKS.but(lacking="alike"), HOME, True),
            ('a is ""', HOME, LACKS.but(lacking="alike"), False), ('a below "m"', HOME, FOLDED, False),
            ('a below "a"', FOLDED, HOME, False), ('a is "x" and not a is "x"', HOME, FOLDED, True),
            ('a is "x" and a is "X"', HOME, FOLDED, True), ('a is "x" or a is "X"', HOME, FOLDED, True),
            ('a is "x" or a is "X"', FOLDED, HOME, True), ('a is "x" or a is "x "', HOME, DROPPED, False),
            ('a is "x" or not a is "x" or a lacks', HOME, FOLDED, True),
            ('a is "x" or not a is "x"', HOME, FOLDED, True),
        ]:
            with self.subTest(test=test, home=str(home), far=str(far)):
                self.check(read_test(test), home, far, A, exact)

    def test_one_number_column(self):
        for test, home, far, exact in [
            ("n is 5", HOME, TENS, False), ("n is 5", TENS, HOME, False), ("n below 5", HOME, TENS, False),
            ("n below 15", TENS, HOME, True), ("n below 16", TENS, HOME, False), ("not n below 5", HOME, TENS, False),
            ("not n below 5", HOME, FOLDED, True), ("n is 5 or n lacks", HOME, Ways(unit=2), False),
            ("n is 5", Ways(unit=5), Ways(unit=5, halves="up"), True),
            ("n is 5", Ways(unit=5), Ways(unit=5, halves="cut"), False),
        ]:
            with self.subTest(test=test, home=str(home), far=str(far)):
                self.check(read_test(test), home, far, N, exact)

    def test_each_rule(self):
        for name, choices in CHOICES.items():
            for one, other in permutations(choices, 2):
                for base in (HOME, Ways(unit=10), Ways(blanks="dropped", empty="lacks", lacking="alike")):
                    home, far = base.but(**{name: one}), base.but(**{name: other})
                    for text in ['a is "X "', 'not a below "x"', 'a is "" or a is "x"']:
                        self.check(read_test(text), home, far, A)
                    if name in ("unit", "halves", "lacking"):
                        for text in ["n is 5", "not n below -15", "n below 5 or n is 10"]:
                            self.check(read_test(text), home, far, N)

    def test_two_columns(self):
        for text in [
            'a is "x" and n is 5', 'a is "x" or n is 5', 'not (a is "x" or n below 5)',
            '(a is "x" or n lacks) and not n is 5',
            '(a below "x" and not n lacks) or n is 15',
        ]:
            for home, far in [(HOME, FOLDED), (FOLDED, TENS), (HOME, UNLIKE), (TENS, LACKS)]:
                with self.subTest(text=text, home=str(home), far=str(far)):
                    self.check(read_test(text), home, far, FOUR)

    def test_a_test_that_is_true_of_no_row_at_home(self):
        for text, home in [
            ('a is "x" and a is "y"', HOME), ("a lacks and not a lacks", HOME), ('a is ""', LACKS),
            ('a below ""', HOME),
            ('a below ""', LACKS), ('not a is "x" and a lacks', HOME), ('a is "x" and not a is "X"', FOLDED),
        ]:
            for far in (HOME, FOLDED, LACKS, LACKS.but(lacking="alike"), UNLIKE):
                test = read_test(text)
                found = cover(test, home, far, AN)
                self.check(test, home, far, A, True)
                for row in all_rows(AN, told_by(test)):
                    self.assertFalse(is_true(found, row, AN, far))

    def test_kinds_of_cells_at_both_stores(self):
        # "m" and "n" are told one apart, so only words with more letters stand between them.
        for text in ['a below "n" and not a below "m"', 'not a below "mm" and a below "mma"',
            'a is "Zz" or a below "A"']:
            for home, far in [(HOME, FOLDED), (FOLDED, HOME), (FOLDED.but(blanks="dropped"), HOME)]:
                self.check(read_test(text), home, far, A)
        test = read_test('not a below "mm" and a below "mma"')
        blind = FOLDED.but(blanks="dropped")
        self.assertTrue(keeps(test, blind, Is("a", "mm"), blind, A))
        self.assertFalse(keeps(test, HOME, Is("a", "mm"), HOME, A))
        for told in (99995, -99985, 15):
            for home, far in product([HOME, TENS, Ways(unit=10, halves="up"), Ways(unit=5, halves="cut")], repeat=2):
                self.check(Is("n", told) | Below("n", 7), home, far, N)

    def test_random_tests(self):
        for seed in range(100, 150):
            maker = Maker(seed)
            with self.subTest(seed=seed):
                test = maker.test(2)
                self.check(test, maker.home, maker.far, maker.columns)


class Mending(unittest.TestCase):
    """[28]."""

    def check(self, question, far, home, tables):
        """Looks at the form of a mended plan, and at its answers on many tables."""
        plan = mend(question, far, home)
        at = cuts(question, far, home)[-1]
        steps = question.steps[:at]
        self.assertEqual(plan.rest, question.behind(at))
        self.assertEqual(plan.sent.steps[:at], steps)
        if at < len(question) and isinstance(question[at], Where):
            self.assertEqual(len(plan), at + 1)
            self.assertIsInstance(plan.sent[at], Where)
            columns = question.upto(at).ends
            test = question[at].test
            self.assertTrue(keeps(test, home, plan.sent[at].test, far, columns))
            self.assertTrue(keeps(plan.sent[at].test, far, cover(test, home, far, columns), far, columns))
        else:
            self.assertEqual(len(plan), at)
        self.assertTrue(same(plan, Plan.cut(question, 0), far, home))
        for table in some_tables(question.columns, told_in(question), tables):
            self.assertEqual(plan.run(table, far, home), question.run(table, home))
        return plan

    def test_a_where_behind_the_greatest_cut(self):
        for columns, text, far, many in [
            (A, 'where a is "x"', FOLDED, 1), (AN, 'where n below 5\nwhere a is "x"\nlower a', FOLDED, 2),
            (AN, 'unlike n\nwhere not a is "x"\nlower a', UNLIKE, 2),
            (AN, 'order n up\nfirst 2\nwhere a is "x"', DROPPED, 3),
            (AN, 'pick a\nwhere not a below "m"\norder a up', FOLDED, 2), (N, "where n is 5\nround n", TENS, 1),
            (AN, 'fill n 5\nwhere n below 6 and a is "x"\ntally a as c', Ways(unit=5, case="folded"), 2),
            (A, 'where a is "x" and not a is "x"', FOLDED, 1), (AN, "where not a lacks or n is 5\nunlike n", LACKS, 1),
        ]:
            with self.subTest(text=text):
                question = Question.read(columns, text)
                plan = self.check(question, far, HOME, 120)
                self.assertEqual(len(plan), many)

    def test_another_step_behind_it(self):
        for columns, text, far, many in [
            (A, "unlike a", FOLDED, 0), (N, "where n is 5\nround n", HOME, 2),
            (AN, "lower a\nround n\nunlike a", TENS, 1),
            (AN, "where n below 5\norder a up\nfirst 2", FOLDED, 1), (AN, "trim a\ntally n as c", TENS, 1),
            (A, 'fill a "x"\nwhere a is "x"', LACKS, 0),
        ]:
            with self.subTest(text=text):
                plan = self.check(Question.read(columns, text), far, HOME, 120)
                self.assertEqual(len(plan), many)

    def test_all_is_cut(self):
        for columns, text, far in [
            (A, "", FOLDED), (AN, "lower a\nunlike a\nwhere n below 5", FOLDED), (AN, "tally n as c", FOLDED),
            (A, 'where a is "x"\nwhere a below "b"', FOLDED), (AN, "order n up\nfirst 2\npick n", LACKS),
        ]:
            question = Question.read(columns, text)
            plan = self.check(question, far, HOME, 60)
            self.assertEqual((plan.sent, plan.rest), (question, Question(question.ends)))

    def test_arguments_by_name(self):
        question = Question.read(A, 'where a is "x"')
        plan = mend(far=FOLDED, home=HOME, question=question)
        self.assertEqual(plan, mend(question, FOLDED, HOME))
        self.assertIsInstance(plan, Plan)

    def test_random_questions(self):
        for seed in range(2000, 2060):
            maker = Maker(seed)
            with self.subTest(seed=seed):
                self.check(maker.question(), maker.far, maker.home, 40)


class Limits(unittest.TestCase):
    """[3], and that nothing hangs on the calls made before ([2])."""

    def test_greatest_sizes(self):
        columns = [("a", "text"), ("n", "number"), ("b", "text"), ("m", "number")]
        test = read_test(
            '(a is "mNoP" or n below 99997 or n lacks) and (not a below "MnOq " or a lacks) and '
            '(not (n is 99997 and a below "mNoP") or a is "MnOq ")'
        )
        other = read_test('(a is "mNoP" or b is "xYzA" or b lacks) and not (a below "MnOq " and b below "xYzA")')
        far, home = Ways(case="folded", unit=10, halves="up", lacking="alike"), Ways(blanks="dropped", empty="lacks")
        question = Question(columns, [
            *Question.read(columns, "lower a\ntrim a\nround n\norder n up a down").steps, Where(test),
            *Question.read(columns, 'fill a "mNoP"\nlower a\npick a n').steps,
        ])
        for one in (test, other):
            calls = [
                lambda: str(cover(one, home, far, columns)), lambda: is_exact(one, home, far, columns),
                lambda: lost(one, home, one, far, columns),
                lambda: lost(cover(one, home, far, columns), far, one, home, columns),
                lambda: str(mend(question, far, home)), lambda: str(mend(question, home, far)),
            ]
            first, seconds = timed(calls)
            self.assertLess(seconds, 10)
            self.assertEqual([call() for call in calls[::-1]], first[::-1])

    def test_covers_and_mended_plans_may_be_passed_on(self):
        test = read_test('(a is "x" or n below 5) and not (a below "X" or n is 15)')
        found = cover(test, HOME, FOLDED.but(unit=10), AN)
        again = cover(found, FOLDED.but(unit=10), HOME, AN)
        self.assertTrue(keeps(test, HOME, again, HOME, AN))
        question = Question(AN, [Where(test)])
        plan = mend(question, FOLDED.but(unit=10), HOME)
        self.assertEqual(read_test(str(plan.sent[0].test)), plan.sent[0].test)
        self.assertTrue(same(plan, Plan.cut(question, 0), FOLDED.but(unit=10), HOME))


if __name__ == "__main__":
    unittest.main()

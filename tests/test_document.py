"""The examples of the document, and those of the README."""

import doctest
import unittest
from pathlib import Path

README = Path(__file__).parent.parent / "README.md"
EXAMPLES = r"""
>>> from sentparts.deciding import cuts, parting
>>> from sentparts.plans import Plan
>>> from sentparts.questions import Question
>>> from sentparts.ways import Ways
>>> home, far = Ways(), Ways(case="folded")
>>> question = Question.read([("a", "text"), ("n", "number")], 'where n below 5\nwhere a is "x"\nlower a')
>>> cuts(question, far, home)
(0, 1)
>>> found = parting(Plan.cut(question, 2), Plan.cut(question, 0), far, home)
>>> found.rows[0][0], len(found)
('X', 1)
>>> from sentparts.tables import Table
>>> table = Table.read('a text, n number\n"x ", 15\n"X", 25\n-, -4')
>>> table.rows, far.seen("X"), Ways(blanks="dropped", empty="lacks").seen("  ")
((('x ', 15), ('X', 25), (None, -4)), 'x', None)
>>> [Ways(unit=10, halves=halves).rounded(-15) for halves in ("up", "even", "cut")]
[-10, -20, -10]
>>> from sentparts.conditions import Is, Lacks, read_test
>>> test = ~(Is("a", "x") | Lacks("a"))
>>> str(test), test.truth({"a": None}, home), test == read_test('not (a is "x" or a lacks)')
('not (a is "x" or a lacks)', False, True)
>>> question = Question.read([("a", "text")], 'unlike a\nwhere not a is "x "')
>>> table = Table([("a", "text")], [["x"], ["X"], ["x "], ["y"]])
>>> question.run(table, home).rows, question.run(table, Ways(case="folded", blanks="dropped")).rows
((('x',), ('X',), ('y',)), (('y',),))
>>> columns = [("a", "text"), ("n", "number")]
>>> top = Question.read(columns, "order a up\nfirst 1\npick n")
>>> from sentparts.deciding import matters
>>> matters(top, home), cuts(top, Ways(unit=10), home), len(parting(Plan.cut(top, 3), Plan.cut(top, 0), far, home))
(('case', 'blanks', 'empty', 'last'), (0, 1, 2, 3), 2)
>>> from sentparts.covers import cover, keeps, mend
>>> one = [("a", "text")]
>>> cover(Is("a", "x"), home, far, one).truth({"a": "X"}, far), keeps(~Is("a", "x"), home, ~Is("a", "x"), far, one)
(True, False)
>>> str(mend(Question.read(one, 'where a is "x"\npick a'), far, home)) != ""
True
"""


class Examples(unittest.TestCase):
    def run_examples(self, text, name):
        test = doctest.DocTestParser().get_doctest(text, {}, name, None, 0)
        self.assertGreater(len(test.examples), 0)
        self.assertEqual(doctest.DocTestRunner().run(test).failed, 0)

    def test_the_document(self):
        self.run_examples(EXAMPLES, "DOC.md")

    def test_the_readme(self):
        self.run_examples(README.read_text(encoding="utf-8"), "README.md")


if __name__ == "__main__":
    unittest.main()

"""The examples of the document that the modules that are there can do, and those of the README."""

import doctest
import unittest
from pathlib import Path

README = Path(__file__).parent.parent / "README.md"
EXAMPLES = r"""
>>> from sentparts.ways import Ways
>>> home, far = Ways(), Ways(case="folded")
>>> from sentparts.tables import Table
>>> table = Table.read('a text, n number\n"x ", 15\n"X", 25\n-, -4')
>>> table.rows, far.seen("X"), Ways(blanks="dropped", empty="lacks").seen("  ")
((('x ', 15), ('X', 25), (None, -4)), 'x', None)
>>> [Ways(unit=10, halves=halves).rounded(-15) for halves in ("up", "even", "cut")]
[-10, -20, -10]
>>> from sentparts.conditions import Is, Lacks, read_test
>>> test = ~(Is("a", "x") | Lacks("a"))
>>> str(test), test.truth({"a": None}, home), test == read_test('not (a is "x" or a lacks)')
('not (a is "x" or a lacks)', False, True)
>>> from sentparts.plans import Plan
>>> from sentparts.questions import Question
>>> question = Question.read([("a", "text"), ("n", "number")], 'where n below 5\nwhere a is "x"\nlower a')
>>> len(question), len(Plan.cut(question, 2)), str(Plan.cut(question, 0)) == "home\n" + str(question)
(3, 2, True)
>>> question = Question.read([("a", "text")], 'unlike a\nwhere not a is "x "')
>>> table = Table([("a", "text")], [["x"], ["X"], ["x "], ["y"]])
>>> question.run(table, home).rows, question.run(table, Ways(case="folded", blanks="dropped")).rows
((('x',), ('X',), ('y',)), (('y',),))
"""


class Examples(unittest.TestCase):
    def run_examples(self, text, name):
        test = doctest.DocTestParser().get_doctest(text, {}, name, None, 0)
        self.assertGreater(len(test.examples), 0)
        self.assertEqual(doctest.DocTestRunner().run(test).failed, 0)

    def test_the_document(self):
        self.run_examples(EXAMPLES, "DOC.md")

    def test_the_readme(self):
        self.run_examples(README.read_text(encoding="utf-8"), "README.md")


if __name__ == "__main__":
    unittest.main()

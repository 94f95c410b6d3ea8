"""Promises [9] and [10]: tables and their texts."""

import unittest
from itertools import product

from sentparts.errors import InvalidTable, InvalidText, Mismatch, NoColumn, NoRow
from sentparts.tables import Table
from sentparts.ways import Ways
from tests.values import (
    PRINTED, RIGHT_NAMES, RIGHT_NUMBERS, RIGHT_TEXTS, WRONG_DECIMALS, WRONG_NAMES, WRONG_NUMBERS, WRONG_TEXTS,
    any_values, nested,
)

BOTH = [("a", "text"), ("n", "number")]


class TableTest(unittest.TestCase):
    def assert_invalid(self, word, *told):
        with self.subTest(word):
            with self.assertRaises(InvalidTable) as caught:
                Table(*told)
            self.assertEqual(caught.exception.word, word)

    def assert_unreadable(self, at, text):
        with self.subTest(text):
            with self.assertRaises(InvalidText) as caught:
                Table.read(text)
            self.assertEqual(caught.exception.at, at)


class Columns(TableTest):
    def test_kept_as_a_tuple_of_tuples(self):
        for columns in (BOTH, tuple(BOTH)):
            table = Table(columns)
            self.assertEqual(table.columns, (("a", "text"), ("n", "number")))
            self.assertIs(table.columns.__class__, tuple)
            self.assertEqual(table.rows, ())
        five = [("a", "text"), ("b", "number"), ("c", "text"), ("d", "number"), ("e", "text")]
        self.assertEqual(Table(five).columns, tuple(five))

    def test_names(self):
        for name in RIGHT_NAMES:
            self.assertEqual(Table([(name, "text")]).columns, ((name, "text"),))
        for name in WRONG_NAMES:
            self.assert_invalid("columns", [(name, "text")])
            self.assert_invalid("columns", [("x", "text"), (name, "number")])

    def test_any_value_as_a_name_or_a_sort(self):
        for value in any_values():
            if not isinstance(value, str):
                self.assert_invalid("columns", [(value, "text")])
            if value not in ("text", "number"):
                self.assert_invalid("columns", [("a", value)])
        for sort in ("texts", "Text", "text ", " number", "num", ""):
            self.assert_invalid("columns", [("a", sort)])

    def test_any_value_as_columns_or_as_a_pair(self):
        for value in any_values():
            if value not in ([("a", "text")], (("a", "text"),)):
                self.assert_invalid("columns", value)
            if value != ("a", "text"):
                self.assert_invalid("columns", [value])
                self.assert_invalid("columns", [("b", "text"), value])

    def test_no_columns(self):
        self.assert_invalid("columns", [])
        self.assert_invalid("columns", (), [])
        self.assert_invalid("columns", [], [[]])

    def test_pairs_are_tuples_of_two(self):
        self.assert_invalid("columns", [["a", "text"]])
        self.assert_invalid("columns", [("a",)])
        self.assert_invalid("columns", [("a", "text", "text")])
        self.assert_invalid("columns", [()])
        self.assert_invalid("columns", ("a", "text"))
        self.assert_invalid("columns", ["at"])

    def test_names_are_all_different(self):
        self.assert_invalid("columns", [("a", "text"), ("a", "text")])
        self.assert_invalid("columns", [("a", "text"), ("a", "number")])
        self.assert_invalid("columns", [("a", "text"), ("b", "text"), ("a", "text")])


class Rows(TableTest):
    def test_kept_as_tuples_in_the_order_passed(self):
        told = [("x", 2), ["y", 1], (None, None), ["x", 2], ["", 0]]
        for rows in (told, tuple(told)):
            table = Table(BOTH, rows)
            self.assertEqual(table.rows, (("x", 2), ("y", 1), (None, None), ("x", 2), ("", 0)))
            self.assertEqual({row.__class__ for row in table.rows}, {tuple})
            self.assertIs(table.rows.__class__, tuple)
        self.assertEqual(Table(columns=BOTH, rows=[("x", 2)]).rows, (("x", 2),))

    def test_what_is_passed_can_be_changed_afterwards(self):
        columns, rows = list(BOTH), [["x", 1], ["y", 2]]
        table = Table(columns, rows)
        columns.append(("b", "text"))
        columns[0] = ("c", "text")
        rows[0][0] = "z"
        rows[1].append(3)
        rows.append(["w", 3])
        self.assertEqual(table.columns, tuple(BOTH))
        self.assertEqual(table.rows, (("x", 1), ("y", 2)))

    def test_what_is_passed_is_not_changed(self):
        columns, rows = list(BOTH), [["x", 1], ("y", 2)]
        Table(columns, rows)
        self.assertEqual((columns, rows), (BOTH, [["x", 1], ("y", 2)]))

    def test_many_rows(self):
        rows = [("x", number) for number in range(40)]
        self.assertEqual(Table(BOTH, rows).rows, tuple(rows))

    def test_any_value_as_rows(self):
        for value in any_values():
            if not isinstance(value, (list, tuple)):
                self.assert_invalid("rows", BOTH, value)
        self.assert_invalid("rows", BOTH, None)
        self.assert_invalid("rows", BOTH, Table(BOTH, [["x", 1]]))
        self.assert_invalid("rows", BOTH, "")

    def test_any_value_as_a_row(self):
        for value in any_values():
            if not isinstance(value, (list, tuple)) or len(value) != 2:
                self.assert_invalid("row", BOTH, [value])
                self.assert_invalid("row", BOTH, [["x", 1], value])
        self.assert_invalid("row", [("a", "text")], ["x"])
        self.assert_invalid("row", [("a", "text")], [Table([("a", "text")], [["x"]])])

    def test_rows_of_another_length(self):
        for row in ([], ["x"], ["x", 1, 2], ("x", 1, None)):
            self.assert_invalid("row", BOTH, [row])
        self.assert_invalid("row", [("a", "text")], [[]])

    def test_texts(self):
        for text in RIGHT_TEXTS:
            self.assertEqual(Table(BOTH, [[text, 0]]).rows, ((text, 0),))
        for text in WRONG_TEXTS:
            self.assert_invalid("cell", BOTH, [[text, 0]])

    def test_numbers(self):
        for number in RIGHT_NUMBERS:
            self.assertEqual(Table(BOTH, [["", number]]).rows, (("", number),))
        for number in WRONG_NUMBERS:
            self.assert_invalid("cell", BOTH, [["", number]])

    def test_cells_are_of_the_sort_of_their_column(self):
        self.assert_invalid("cell", BOTH, [[1, 1]])
        self.assert_invalid("cell", BOTH, [["x", "x"]])
        self.assert_invalid("cell", BOTH, [[1, "x"]])
        self.assert_invalid("cell", [("n", "number")], [["1"]])
        self.assert_invalid("cell", BOTH, [["x", 1], ["y", 2], ["z", ""]])

    def test_any_value_as_a_cell(self):
        for value in any_values():
            if value is not None and not isinstance(value, str):
                self.assert_invalid("cell", [("a", "text")], [[value]])
            if value is not None and (isinstance(value, bool) or not isinstance(value, int)):
                self.assert_invalid("cell", [("n", "number")], [[value]])

    def test_which_word_comes_first(self):
        wrong_columns, wrong_cell, wrong_row = [("a", "text"), ("a", "text")], ["x", True], ["x"]
        self.assert_invalid("columns", wrong_columns, None)
        self.assert_invalid("columns", None, [wrong_row])
        self.assert_invalid("columns", wrong_columns, [["x", 1]])
        self.assert_invalid("row", BOTH, [wrong_row, wrong_cell])
        self.assert_invalid("row", BOTH, [wrong_cell, wrong_row])
        self.assert_invalid("row", BOTH, [wrong_cell, ["x", 1], None])
        self.assert_invalid("row", BOTH, [[True]])
        self.assert_invalid("cell", BOTH, [["x", 1], wrong_cell])

    def test_deep_values(self):
        for kind in (list, tuple):
            self.assert_invalid("columns", nested("a", 8, kind))
            self.assert_invalid("row", BOTH, nested("a", 8, kind))
            self.assert_invalid("cell", [("a", "text")], nested("a", 8, kind))


class Reaching(TableTest):
    def setUp(self):
        self.table = Table(BOTH, [["x", 1], ["y", None], ["x", 1]])

    def test_length(self):
        self.assertEqual(len(self.table), 3)
        self.assertEqual(len(Table(BOTH)), 0)

    def test_rows_by_number(self):
        self.assertEqual([self.table[at] for at in range(3)], [("x", 1), ("y", None), ("x", 1)])
        self.assertIs(self.table[0].__class__, tuple)

    def test_no_row(self):
        for table in (self.table, Table(BOTH)):
            for at in (-1, -2, -3, -4, len(table), len(table) + 1, 10**30, -(10**30)):
                with self.subTest(at):
                    with self.assertRaises(NoRow) as caught:
                        table[at]
                    self.assertEqual(caught.exception.at, at)

    def test_cells_of_a_column(self):
        self.assertEqual(self.table.under("a"), ("x", "y", "x"))
        self.assertEqual(self.table.under(name="n"), (1, None, 1))
        self.assertIs(self.table.under("a").__class__, tuple)
        self.assertEqual(Table(BOTH).under("n"), ())

    def test_no_column(self):
        for name in ("b", "", "an", "A", "a ", "text", "number", "a text", "not", "columns"):
            with self.subTest(name):
                with self.assertRaises(NoColumn) as caught:
                    self.table.under(name)
                self.assertEqual(caught.exception.name, name)

    def test_not_iterable(self):
        for reach in (iter, list, tuple, lambda table: [*table], lambda table: ("x", 1) in table):
            with self.assertRaises(TypeError):
                reach(self.table)
        with self.assertRaises(TypeError):
            for _ in Table(BOTH):
                pass


class Adding(TableTest):
    def test_rows_of_both(self):
        one, other = Table(BOTH, [["x", 1], ["y", 2]]), Table(BOTH, [["x", 1], [None, 0]])
        self.assertEqual((one + other).rows, (("x", 1), ("y", 2), ("x", 1), (None, 0)))
        self.assertEqual((other + one).rows, (("x", 1), (None, 0), ("x", 1), ("y", 2)))
        self.assertEqual((one + other).columns, tuple(BOTH))
        self.assertIsInstance(one + other, Table)
        self.assertEqual(len(one), 2)
        self.assertEqual(len(other), 2)
        self.assertEqual(one + Table(BOTH), one)

    def test_in_place_makes_a_new_table(self):
        one, other = Table(BOTH, [["x", 1]]), Table(BOTH, [["y", 2]])
        kept = one
        one += other
        self.assertEqual(one.rows, (("x", 1), ("y", 2)))
        self.assertEqual(kept.rows, (("x", 1),))
        self.assertEqual(other.rows, (("y", 2),))
        self.assertIsNot(one, kept)

    def test_adding_nothing_in_place_changes_nothing(self):
        one = kept = Table(BOTH, [["x", 1]])
        one += Table(BOTH)
        self.assertEqual(one, kept)

    def test_mismatch(self):
        one = Table(BOTH, [["x", 1]])
        others = [
            [("n", "number"), ("a", "text")], [("a", "text")], [("a", "text"), ("n", "text")],
            [("b", "text"), ("n", "number")], [*BOTH, ("b", "text")],
        ]
        for columns in others:
            with self.subTest(columns), self.assertRaises(Mismatch):
                one + Table(columns)
            with self.subTest(columns), self.assertRaises(Mismatch):
                Table(columns) + one
            with self.subTest(columns), self.assertRaises(Mismatch):
                one += Table(columns)
        self.assertEqual(one.rows, (("x", 1),))


class Comparing(TableTest):
    def test_equal(self):
        self.assertIs(Table(BOTH, [["x", 1]]) == Table(tuple(BOTH), (("x", 1),)), True)
        self.assertIs(Table(BOTH, [["x", 1]]) != Table(tuple(BOTH), (("x", 1),)), False)

    def test_unequal(self):
        table = Table(BOTH, [["x", 1], ["y", 2]])
        others = [
            Table(BOTH, [["y", 2], ["x", 1]]), Table(BOTH, [["x", 1]]), Table(BOTH),
            Table(BOTH, [["x", 1], ["y", 2], ["y", 2]]), Table(BOTH, [["x", 1], ["y", None]]),
            Table(BOTH, [["X", 1], ["y", 2]]), Table(BOTH, [["x ", 1], ["y", 2]]),
            Table([("b", "text"), ("n", "number")], [["x", 1], ["y", 2]]),
        ]
        for other in others:
            self.assertIs(table == other, False)
            self.assertIs(table != other, True)
        self.assertIs(Table([("a", "text")]) == Table([("a", "number")]), False)
        self.assertIs(Table(BOTH) == Table([BOTH[1], BOTH[0]]), False)
        self.assertIs(Table([("a", "text")], [[None]]) == Table([("a", "text")], [[""]]), False)

    def test_equal_to_nothing_of_another_class(self):
        table = Table(BOTH, [["x", 1]])
        for value in [*any_values(), table.rows, table.columns, str(table), Ways()]:
            if not isinstance(value, Table):
                self.assertIs(table == value, False)
                self.assertIs(value == table, False)
                self.assertIs(table != value, True)


class Writing(TableTest):
    def test_text(self):
        table = Table(BOTH, [["x ", 15], ["X", -25], [None, None], ["", 0]])
        self.assertEqual(str(table), 'a text, n number\n"x ", 15\n"X", -25\n-, -\n"", 0')
        self.assertEqual(str(Table(BOTH)), "a text, n number")
        self.assertEqual(str(Table([("n", "number")], [[10**6], [-10**6]])), "n number\n1000000\n-1000000")
        self.assertEqual(str(Table([("abcd", "text")], [["  "]])), 'abcd text\n"  "')

    def test_there_and_back(self):
        texts = [None, *RIGHT_TEXTS]
        numbers = [None, *RIGHT_NUMBERS]
        table = Table(BOTH, list(product(texts, numbers)))
        self.assertEqual(Table.read(str(table)), table)
        self.assertEqual(str(Table.read(str(table))), str(table))
        columns = [(name, sort) for name, sort in zip(RIGHT_NAMES[:5], ["text", "number", "number", "text", "text"])]
        for rows in ([], [["x", 1, None, "y", ""]], [[None] * 5] * 3):
            table = Table(columns, rows)
            self.assertEqual(Table.read(str(table)), table)


class Reading(TableTest):
    def test_reading(self):
        table = Table.read('a text, n number\n"x ", 15\n-, -4\n"", 0\n"   ", -')
        self.assertIsInstance(table, Table)
        self.assertEqual(table.columns, (("a", "text"), ("n", "number")))
        self.assertEqual(table.rows, (("x ", 15), (None, -4), ("", 0), ("   ", None)))
        self.assertEqual(Table.read(text="n number").rows, ())

    def test_the_line_of_the_columns(self):
        for line in [
            "", " ", "\n", "a", "a ", " text", "a  text", " a text", "a text ", "a text,", "a text, ", ", a text",
            "a text,n number", "a text,  n number", "a text ,n number", "a text n number", "a text, , n number",
            "a\ttext", "a text, a text", "a text, a number", "a text, n number, a text", "A text", "a Text", "a texts",
            "a words", "text", "text text text", "a text text", '"a" text', "-", "a, text", "a: text", "(a, text)",
        ]:
            self.assert_unreadable(0, line)
            self.assert_unreadable(0, line + '\n"x", 1')
        for name in WRONG_NAMES:
            self.assert_unreadable(0, f"{name} text")
            self.assert_unreadable(0, f"x text, {name} text")
        for name in RIGHT_NAMES:
            self.assertEqual(Table.read(f"{name} number").columns, ((name, "number"),))

    def test_the_empty_text(self):
        self.assert_unreadable(0, "")

    def test_the_lines_of_rows(self):
        for line in [
            "", " ", "-", '"x"', "1", '"x", 1, 1', '"x", 1, ', '"x", 1,', ', "x", 1', '"x",1', '"x",  1', '"x" ,1',
            '"x" , 1', ' "x", 1', '"x", 1 ', '"x" 1', '1, "x"', '1, 1', '"x", "x"', '"x", "1"', "x, 1", '"x, 1',
            'x", 1',
            '", 1', '""", 1', '""x"", 1', '"x"y", 1', "'x', 1", "None, 1", "--, 1", '"x", --', '"x", None', '"x", ',
            ', 1', ", ", '"x"\t, 1', '"x", 1\r', '"x ", 1, -', '("x", 1)', '-,-', '"x", - 1', "a text, n number",
        ]:
            self.assert_unreadable(1, "a text, n number\n" + line)
            self.assert_unreadable(2, 'a text, n number\n"x", 1\n' + line)
            self.assert_unreadable(2, f'a text, n number\n-, -\n{line}\n"x", 1\n' + line)
        self.assert_unreadable(1, 'a text\n')
        self.assert_unreadable(2, 'a text\n"x"\n')
        self.assert_unreadable(1, 'a text\n\n"x"')
        self.assert_unreadable(1, 'a text\n"x", "y"')

    def test_texts(self):
        for text in RIGHT_TEXTS:
            self.assertEqual(Table.read(f'a text\n"{text}"').rows, ((text,),))
        for text in WRONG_TEXTS:
            self.assert_unreadable(1, f'a text\n"{text}"')

    def test_numbers(self):
        for number in [*RIGHT_NUMBERS, *range(-120, 121)]:
            table = Table.read(f"n number\n{number}")
            self.assertEqual(table.rows, ((number,),))
            self.assertIs(table[0][0].__class__, int)
        for word in [
            *[word for word in WRONG_DECIMALS if word != "-"],
            *[f"1{sign}" for sign in PRINTED if not sign.isdigit()],
            *[f"{sign}1" for sign in PRINTED if not sign.isdigit() and sign != "-"],
        ]:
            self.assert_unreadable(1, f"n number\n{word}")
            self.assert_unreadable(2, f"n number\n0\n{word}\n{word}")

    def test_the_first_wrong_line_is_told(self):
        good, wrong = '"x", 1', '"x", 01'
        for at in range(1, 6):
            lines = ["a text, n number", *[good] * 6]
            lines[at] = wrong
            lines[6] = wrong
            self.assert_unreadable(at, "\n".join(lines))
            self.assert_unreadable(0, "\n".join(["a text, a number", *lines[1:]]))
        self.assert_unreadable(1, 'a text, n number\n"x", 01\n"x"')
        self.assert_unreadable(1, 'a text, n number\n"x"\n"x", 01')


if __name__ == "__main__":
    unittest.main()

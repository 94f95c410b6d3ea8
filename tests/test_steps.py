"""Promises [15] and [16]: the steps, what they make and how they are made; and their texts."""

import unittest
from itertools import permutations, product

from sentparts.conditions import Below, Is, Lacks, Not
from sentparts.errors import InvalidStep, InvalidText
from sentparts.questions import Question, read_step
from sentparts.steps import Fill, First, Lower, Order, Pick, Round, Step, Tally, Trim, Unlike, Where
from sentparts.tables import Table
from sentparts.ways import Ways
from tests.values import (
    CHOICES, LOWER, RIGHT_NAMES, RIGHT_NUMBERS, RIGHT_TEXTS, WRONG_DECIMALS, WRONG_NAMES, WRONG_NUMBERS, WRONG_TEXTS,
    all_ways, any_values, is_among, nested, some_steps,
)

CLASSES = [Where, Pick, Lower, Trim, Round, Fill, Unlike, Order, First, Tally]
WORDS = [
    (Where(Is("a", "x")), 'where a is "x"'),
    (Where(Not(Lacks("a") | Below("n", -5))), "where not (a lacks or n below -5)"),
    (Pick(["a"]), "pick a"),
    (Pick(("n", "a", "bcde")), "pick n a bcde"),
    (Lower("a"), "lower a"),
    (Lower("n"), "lower n"),
    (Trim("a"), "trim a"),
    (Trim("bc"), "trim bc"),
    (Round("n"), "round n"),
    (Round("m"), "round m"),
    (Fill("a", "x"), 'fill a "x"'),
    (Fill("a", ""), 'fill a ""'),
    (Fill("a", "Xy  "), 'fill a "Xy  "'),
    (Fill("n", -10), "fill n -10"),
    (Fill("n", 0), "fill n 0"),
    (Unlike(["a"]), "unlike a"),
    (Unlike(("a", "n")), "unlike a n"),
    (Order([("a", "up")]), "order a up"),
    (Order((("a", "up"), ("n", "down"))), "order a up n down"),
    (First(1), "first 1"),
    (First(10), "first 10"),
    (First(10**30), "first 1" + "0" * 30),
    (Tally(["a"], "c"), "tally a as c"),
    (Tally(("a", "n"), "abcd"), "tally a n as abcd"),
]
BOTH = [("a", "text"), ("n", "number")]
LETTERS = [*LOWER, *LOWER.upper()]
MIXED = [["x", 1], ["X", 2], ["x ", 3], ["", 4], [None, 5], [" ", 6], ["x", 1], ["y", None], ["", 14], [None, 15]]


def made(step, rows, ways=Ways(), columns=BOTH):
    """The rows that a step makes."""
    return Question(columns, [step]).run(Table(columns, rows), ways).rows


def made_of_cells(step, cells, ways=Ways(), sort="text"):
    """The cells that a step makes of a column a."""
    return [row[0] for row in made(step, [[cell] for cell in cells], ways, [("a", sort)])]


class StepTest(unittest.TestCase):
    def assert_invalid(self, word, make, *told):
        with self.subTest(make.__name__, word=word):
            with self.assertRaises(InvalidStep) as caught:
                make(*told)
            self.assertEqual(caught.exception.word, word)

    def assert_unreadable(self, line):
        with self.subTest(line):
            with self.assertRaises(InvalidText) as caught:
                read_step(line, 3)
            self.assertEqual(caught.exception.at, 3)


class Keeping(StepTest):
    """Where, Pick, First."""

    def test_where_keeps_the_rows_of_which_the_test_is_true(self):
        cells = ["x", "X", None, "x ", "", "y", "x"]
        for rule in CHOICES["lacking"]:
            ways = Ways(lacking=rule)
            self.assertEqual(made_of_cells(Where(Is("a", "x")), cells, ways), ["x", "x"])
            kept = {"unknown": ["X", "x ", "", "y"], "unlike": ["X", None, "x ", "", "y"]}
            kept["alike"] = kept["unlike"]
            self.assertEqual(made_of_cells(Where(~Is("a", "x")), cells, ways), kept[rule])

    def test_where_at_stores_of_each_rule(self):
        cells = ["x", "X", None, "x ", "", " ", "y"]
        is_x = Where(Is("a", "x"))
        self.assertEqual(made_of_cells(is_x, cells, Ways(case="folded")), ["x", "X"])
        self.assertEqual(made_of_cells(is_x, cells, Ways(blanks="dropped")), ["x", "x "])
        lacking = Where(Lacks("a"))
        self.assertEqual(made_of_cells(lacking, cells, Ways()), [None])
        self.assertEqual(made_of_cells(lacking, cells, Ways(empty="lacks")), [None, ""])
        self.assertEqual(made_of_cells(lacking, cells, Ways(empty="lacks", blanks="dropped")), [None, "", " "])
        alike = Ways(empty="lacks", lacking="alike")
        self.assertEqual(made_of_cells(Where(Is("a", "")), cells, alike), [None, ""])
        self.assertEqual(made_of_cells(Where(Is("a", "")), cells, alike.but(lacking="unlike")), [])
        self.assertEqual(made_of_cells(Where(Below("a", "x")), cells, alike), ["X", " "])
        numbers = [4, 5, 6, None, 15, -5]
        self.assertEqual(made_of_cells(Where(Is("a", 0)), numbers, Ways(unit=10), "number"), [4, 5, -5])
        self.assertEqual(made_of_cells(Where(Below("a", 5)), numbers, Ways(unit=10, halves="up"), "number"), [4, -5])

    def test_where_looks_at_all_columns_and_keeps_them(self):
        rows = [["x", 1], ["x", 9], ["y", 1], ["x", None], [None, 1]]
        self.assertEqual(made(Where(Is("a", "x") & Below("n", 5)), rows), (("x", 1),))
        self.assertEqual(made(Where(Is("a", "x") | Below("n", 5)), rows), tuple(map(tuple, rows)))
        self.assertEqual(made(Where(Is("a", "y") | Below("n", 5)), rows), (("x", 1), ("y", 1), (None, 1)))
        self.assertEqual(made(Where(~(Is("a", "x") & Below("n", 5))), rows), (("x", 9), ("y", 1)))

    def test_pick(self):
        columns = [("a", "text"), ("n", "number"), ("b", "text")]
        table = Table(columns, [["x", 1, "y"], [None, None, "z "], ["x", 1, "y"]])
        for names in [each for count in (1, 2, 3) for each in permutations("anb", count)]:
            answer = Question(columns, [Pick(names)]).run(table, Ways(case="folded", blanks="dropped"))
            self.assertEqual(answer.columns, tuple((name, dict(columns)[name]) for name in names))
            for name in names:
                self.assertEqual(answer.under(name), table.under(name))

    def test_first(self):
        rows = [["x", number] for number in range(4)]
        for count in (1, 2, 3, 4, 5, 40, 10**30, 10**5000):
            self.assertEqual(made(First(count), rows), tuple(("x", number) for number in range(min(count, 4))))
        self.assertEqual(made(First(2), []), ())
        self.assertEqual(made(First(2), [["X ", 5], [None, None], ["x", 5]], Ways("folded")), (("X ", 5), (None, None)))


class Changing(StepTest):
    """Lower, Trim, Round, Fill."""

    def test_lower(self):
        cells = ["X", "xY ", None, "", "  ", "ABCDEFGHIJ"]
        for ways in (Ways(), Ways("folded", "dropped", "lacks", "alike", True, 10, "cut")):
            self.assertEqual(made_of_cells(Lower("a"), cells, ways), ["x", "xy ", None, "", "  ", "abcdefghij"])
            self.assertEqual(made_of_cells(Lower("a"), LETTERS, ways), [*LOWER, *LOWER])

    def test_trim(self):
        cells = ["X", "x ", None, "", "  ", "a   ", "aB  "]
        for ways in (Ways(), Ways("folded", "dropped", "lacks", "alike", True, 10, "cut")):
            self.assertEqual(made_of_cells(Trim("a"), cells, ways), ["X", "x", None, "", "", "a", "aB"])
            self.assertEqual(made_of_cells(Trim("a"), LETTERS, ways), LETTERS)
            self.assertEqual(made_of_cells(Trim("a"), [sign + " " for sign in LETTERS], ways), LETTERS)

    def test_round(self):
        cells = [-25, -15, -7, None, 0, 3, 5, 15, 10**6]
        self.assertEqual(made_of_cells(Round("a"), cells, Ways(), "number"), cells)
        for halves, found in {
            "up": [-20, -10, -10, None, 0, 0, 10, 20, 10**6],
            "even": [-20, -20, -10, None, 0, 0, 0, 20, 10**6],
            "cut": [-20, -10, 0, None, 0, 0, 0, 10, 10**6],
        }.items():
            self.assertEqual(made_of_cells(Round("a"), cells, Ways(unit=10, halves=halves), "number"), found)
        for unit, halves in product(CHOICES["unit"], CHOICES["halves"]):
            ways = Ways(unit=unit, halves=halves, empty="lacks", last=True)
            found = made_of_cells(Round("a"), range(-20, 20), ways, "number")
            self.assertEqual(found, [ways.rounded(number) for number in range(-20, 20)])

    def test_fill_takes_the_place_of_cells_that_lack_at_the_store(self):
        cells = ["x", None, "", " ", "X ", None]
        self.assertEqual(made_of_cells(Fill("a", "Q "), cells), ["x", "Q ", "", " ", "X ", "Q "])
        self.assertEqual(made_of_cells(Fill("a", "Q"), cells, Ways(empty="lacks")), ["x", "Q", "Q", " ", "X ", "Q"])
        self.assertEqual(made_of_cells(Fill("a", "Q"), cells, Ways(blanks="dropped")), ["x", "Q", "", " ", "X ", "Q"])
        both = Ways(case="folded", blanks="dropped", empty="lacks")
        self.assertEqual(made_of_cells(Fill("a", "Q "), cells, both), ["x", "Q ", "Q ", "Q ", "X ", "Q "])

    def test_fill_with_what_lacks_itself(self):
        self.assertEqual(made_of_cells(Fill("a", ""), ["x", None, "", " "], Ways(empty="lacks")), ["x", "", "", " "])
        both = Ways(empty="lacks", blanks="dropped")
        self.assertEqual(made_of_cells(Fill("a", "  "), ["x", None, "", " "], both), ["x", "  ", "  ", "  "])

    def test_fill_of_numbers(self):
        cells = [0, None, 7, -3]
        for ways in (Ways(), Ways(unit=10, empty="lacks")):
            self.assertEqual(made_of_cells(Fill("a", 7), cells, ways, "number"), [0, 7, 7, -3])

    def test_other_columns_and_the_order_of_rows_stay(self):
        columns = [("b", "text"), ("a", "text"), ("n", "number")]
        rows = [["B ", "X ", 15], [None, None, None], ["", "", -15]]
        ways = Ways(case="folded", blanks="dropped", unit=10)
        for step, found in [
            (Lower("a"), (("B ", "x ", 15), (None, None, None), ("", "", -15))),
            (Trim("b"), (("B", "X ", 15), (None, None, None), ("", "", -15))),
            (Round("n"), (("B ", "X ", 20), (None, None, None), ("", "", -20))),
            (Fill("b", "z"), (("B ", "X ", 15), ("z", None, None), ("", "", -15))),
            (Fill("n", 1), (("B ", "X ", 15), (None, None, 1), ("", "", -15))),
        ]:
            self.assertEqual(made(step, rows, ways, columns), found)


class Meeting(StepTest):
    """Unlike, Order, Tally."""

    def are_alike(self, one, other, places, ways):
        return all(ways.alike(one[place], other[place]) for place in places)

    def test_unlike(self):
        cells = ["x", "X", "x ", None, "", " ", "X", "x", None]
        self.assertEqual(made_of_cells(Unlike(["a"]), cells), ["x", "X", "x ", None, "", " "])
        self.assertEqual(made_of_cells(Unlike(["a"]), cells, Ways(case="folded")), ["x", "x ", None, "", " "])
        self.assertEqual(made_of_cells(Unlike(["a"]), cells, Ways(blanks="dropped")), ["x", "X", None, ""])
        self.assertEqual(made_of_cells(Unlike(["a"]), cells, Ways(empty="lacks")), ["x", "X", "x ", None, " "])
        all_three = Ways("folded", "dropped", "lacks")
        self.assertEqual(made_of_cells(Unlike(["a"]), cells, all_three), ["x", None])
        self.assertEqual(made_of_cells(Unlike(["a"]), list(reversed(cells[1:7])), all_three), ["X", " "])
        for rule in CHOICES["lacking"]:
            self.assertEqual(made_of_cells(Unlike(["a"]), [None, "x", None], Ways(lacking=rule)), [None, "x"])

    def test_unlike_of_numbers(self):
        numbers = [4, 5, 6, None, 15, -5, 14, None]
        self.assertEqual(made_of_cells(Unlike(["a"]), numbers, Ways(), "number"), [4, 5, 6, None, 15, -5, 14])
        self.assertEqual(made_of_cells(Unlike(["a"]), numbers, Ways(unit=10), "number"), [4, 6, None, 15])
        self.assertEqual(made_of_cells(Unlike(["a"]), numbers, Ways(unit=10, halves="up"), "number"), [4, 5, None, 15])

    def test_tally(self):
        cells = ["x", "X", "x ", None, "", " ", "X", "x", None]
        for ways, found in [
            (Ways(), (("x", 2), ("X", 2), ("x ", 1), (None, 2), ("", 1), (" ", 1))),
            (Ways(case="folded"), (("x", 4), ("x ", 1), (None, 2), ("", 1), (" ", 1))),
            (Ways(blanks="dropped"), (("x", 3), ("X", 2), (None, 2), ("", 2))),
            (Ways(empty="lacks"), (("x", 2), ("X", 2), ("x ", 1), (None, 3), (" ", 1))),
            (Ways("folded", "dropped", "lacks"), (("x", 5), (None, 4))),
        ]:
            self.assertEqual(made(Tally(["a"], "c"), [[cell] for cell in cells], ways, [("a", "text")]), found)
        self.assertEqual(made(Tally(["a"], "c"), []), ())

    def test_columns_of_a_tally(self):
        table = Table(BOTH, [["x", 15], ["y", 15], ["X", 25]])
        for step, columns, rows in [
            (Tally(["a"], "c"), (("a", "text"), ("c", "number")), (("x", 2), ("y", 1))),
            (Tally(["a"], "n"), (("a", "text"), ("n", "number")), (("x", 2), ("y", 1))),
            (Tally(["n"], "a"), (("n", "number"), ("a", "number")), ((15, 3),)),
            (Tally(["n", "a"], "b"), (("n", "number"), ("a", "text"), ("b", "number")), ((15, "x", 2), (15, "y", 1))),
        ]:
            answer = Question(BOTH, [step]).run(table, Ways(case="folded", unit=10))
            self.assertEqual((answer.columns, answer.rows), (columns, rows))

    def test_unlike_and_tally_at_all_ways(self):
        for ways in all_ways():
            for names in (["a"], ["n"], ["a", "n"], ["n", "a"]):
                places = [0 if name == "a" else 1 for name in names]
                firsts = [
                    row for at, row in enumerate(MIXED)
                    if not any(self.are_alike(row, other, places, ways) for other in MIXED[:at])
                ]
                self.assertEqual(made(Unlike(names), MIXED, ways), tuple(map(tuple, firsts)))
                counts = [sum(self.are_alike(row, other, places, ways) for other in MIXED) for row in firsts]
                found = [(*[row[place] for place in places], count) for row, count in zip(firsts, counts)]
                self.assertEqual(made(Tally(names, "c"), MIXED, ways), tuple(found))

    def test_order_up_and_down(self):
        cells = ["b", None, "B", "a", "", "ab"]
        up, down = Order([("a", "up")]), Order([("a", "down")])
        self.assertEqual(made_of_cells(up, cells), [None, "", "B", "a", "ab", "b"])
        self.assertEqual(made_of_cells(down, cells), ["b", "ab", "a", "B", "", None])
        self.assertEqual(made_of_cells(up, cells, Ways(last=True)), ["", "B", "a", "ab", "b", None])
        self.assertEqual(made_of_cells(down, cells, Ways(last=True)), [None, "b", "ab", "a", "B", ""])
        self.assertEqual(made_of_cells(up, cells, Ways(case="folded")), [None, "", "a", "ab", "b", "B"])
        self.assertEqual(made_of_cells(down, cells, Ways(case="folded")), ["b", "B", "ab", "a", "", None])
        self.assertEqual(made_of_cells(up, cells, Ways(empty="lacks")), [None, "", "B", "a", "ab", "b"])
        self.assertEqual(made_of_cells(up, cells, Ways(empty="lacks", last=True)), ["B", "a", "ab", "b", None, ""])
        self.assertEqual(made_of_cells(down, cells, Ways(empty="lacks")), ["b", "ab", "a", "B", None, ""])

    def test_order_of_blanks_and_numbers(self):
        cells = ["a ", "a", "a  ", " ", ""]
        up, down = Order([("a", "up")]), Order([("a", "down")])
        self.assertEqual(made_of_cells(up, cells), ["", " ", "a", "a ", "a  "])
        self.assertEqual(made_of_cells(up, cells, Ways(blanks="dropped")), [" ", "", "a ", "a", "a  "])
        self.assertEqual(made_of_cells(down, cells, Ways(blanks="dropped")), ["a ", "a", "a  ", " ", ""])
        numbers = [10, 9, None, -1, 14, 5, -10, 15]
        self.assertEqual(made_of_cells(up, numbers, Ways(), "number"), [None, -10, -1, 5, 9, 10, 14, 15])
        self.assertEqual(made_of_cells(up, numbers, Ways(unit=10), "number"), [None, -10, -1, 5, 10, 9, 14, 15])
        ways = Ways(unit=10, halves="cut", last=True)
        self.assertEqual(made_of_cells(up, numbers, ways, "number"), [-10, 9, -1, 5, 10, 14, 15, None])
        self.assertEqual(made_of_cells(down, numbers, ways, "number"), [None, 10, 14, 15, 9, -1, 5, -10])

    def test_order_by_several_columns(self):
        rows = [["b", 1], ["a", 2], ["b", None], ["a", 1], [None, 2], ["a", None], [None, 1]]
        self.assertEqual(
            made(Order([("a", "up"), ("n", "up")]), rows),
            ((None, 1), (None, 2), ("a", None), ("a", 1), ("a", 2), ("b", None), ("b", 1)),
        )
        self.assertEqual(
            made(Order([("a", "up"), ("n", "down")]), rows),
            ((None, 2), (None, 1), ("a", 2), ("a", 1), ("a", None), ("b", 1), ("b", None)),
        )
        self.assertEqual(
            made(Order([("n", "down"), ("a", "up")]), rows, Ways(last=True)),
            (("a", None), ("b", None), ("a", 2), (None, 2), ("a", 1), ("b", 1), (None, 1)),
        )

    def is_ahead(self, one, other, by, ways):
        for name, way in by:
            place = 0 if name == "a" else 1
            cell, beside = (one[place], other[place]) if way == "up" else (other[place], one[place])
            if ways.ahead(cell, beside):
                return True
            if ways.ahead(beside, cell):
                return False
        return False

    def test_order_at_all_ways(self):
        each = [(name, way) for name in "an" for way in ("up", "down")]
        orders = [[pair] for pair in each]
        orders += [[one, other] for one, other in permutations(each, 2) if one[0] != other[0]]
        for ways in all_ways():
            for by in orders:
                found = []
                for row in MIXED:
                    at = len(found)
                    while at > 0 and self.is_ahead(row, found[at - 1], by, ways):
                        at -= 1
                    found.insert(at, tuple(row))
                self.assertEqual(made(Order(by), MIXED, ways), tuple(found))

    def test_rows_that_are_alike_stay_in_their_order_and_keep_their_cells(self):
        rows = [["x", 3], ["X", 1], ["x ", 2], ["X ", 5]]
        ways = Ways(case="folded", blanks="dropped")
        for way in ("up", "down"):
            self.assertEqual(made(Order([("a", way)]), rows, ways), (("x", 3), ("X", 1), ("x ", 2), ("X ", 5)))
        numbers = [["x", 14], ["y", 6], ["x", 10]]
        for way in ("up", "down"):
            self.assertEqual(made(Order([("n", way)]), numbers, Ways(unit=10)), (("x", 14), ("y", 6), ("x", 10)))


class Making(StepTest):
    """Promise [16]."""

    def test_arguments_are_attributes(self):
        test = Is("a", "x")
        self.assertIs(Where(test=test).test, test)
        for make in (Pick, Unlike):
            for columns in (["b", "a"], ("b", "a")):
                self.assertEqual(make(columns=columns).columns, ("b", "a"))
                self.assertIs(make(columns).columns.__class__, tuple)
        for make in (Lower, Trim, Round):
            self.assertEqual(make(column="abcd").column, "abcd")
        for cell in [*RIGHT_TEXTS, *RIGHT_NUMBERS]:
            step = Fill(cell=cell, column="a")
            self.assertEqual((step.column, step.cell), ("a", cell))
        for by in ([("b", "up"), ("a", "down")], (("b", "up"), ("a", "down"))):
            self.assertEqual(Order(by=by).by, (("b", "up"), ("a", "down")))
            self.assertEqual([each.__class__ for each in (Order(by).by, *Order(by).by)], [tuple] * 3)
        for count in (1, 2, 4, 40, 10**30, 10**5000):
            self.assertEqual(First(count=count).count, count)
        for columns in (["b", "a"], ("b", "a")):
            step = Tally(name="c", columns=columns)
            self.assertEqual((step.columns, step.name), (("b", "a"), "c"))
            self.assertIs(step.columns.__class__, tuple)
        self.assertEqual((Tally(["a"], "a").columns, Tally(["a"], "a").name), (("a",), "a"))

    def test_classes(self):
        for step, make in zip(some_steps(), CLASSES, strict=True):
            self.assertIsInstance(step, Step)
            self.assertEqual([isinstance(step, each) for each in CLASSES], [each is make for each in CLASSES])
        for one, other in product(CLASSES, CLASSES):
            self.assertEqual(issubclass(one, other), one is other)

    def test_lists_can_be_changed_behind(self):
        for make in (Pick, Unlike, lambda names: Tally(names, "c")):
            names = ["a", "n"]
            step = make(names)
            text = str(step)
            self.assertEqual(names, ["a", "n"])
            names.append("b")
            names[0] = "c"
            self.assertEqual((step.columns, str(step)), (("a", "n"), text))
            self.assertEqual(step, make(["a", "n"]))
        by = [("a", "up")]
        step = Order(by)
        by[0] = ("n", "down")
        by.append(("a", "up"))
        self.assertEqual((step.by, step), ((("a", "up"),), Order([("a", "up")])))
        self.assertEqual(made(step, [["y", 1], ["x", 2]]), (("x", 2), ("y", 1)))

    def test_any_value_as_a_test(self):
        for value in any_values():
            if not isinstance(value, Is.__bases__):
                self.assert_invalid("test", Where, value)

    def test_any_value_as_a_column(self):
        names = ["last", "none", *RIGHT_NAMES]
        for value in [*[value for value in any_values() if not is_among(value, names)], *WRONG_NAMES]:
            for make in (Lower, Trim, Round):
                self.assert_invalid("column", make, value)
            for cell in ("x", 1, None, True, []):
                self.assert_invalid("column", Fill, value, cell)
            self.assert_invalid("name", Tally, ["a"], value)
            for make in (Pick, Unlike, self.tally):
                self.assert_invalid("columns", make, [value])
                self.assert_invalid("columns", make, ("a", value))
                self.assert_invalid("columns", make, [value, "a", "b"])
            self.assert_invalid("by", Order, [(value, "up")])
            self.assert_invalid("by", Order, (("b", "up"), (value, "down")))
        for name in RIGHT_NAMES:
            self.assertEqual([make(name).column for make in (Lower, Trim, Round)], [name] * 3)
            self.assertEqual([Fill(name, 1).column, Tally(["a"], name).name], [name] * 2)
            self.assertEqual([make([name]).columns for make in (Pick, Unlike, self.tally)], [(name,)] * 3)
            self.assertEqual(Order([(name, "down")]).by, ((name, "down"),))

    def tally(self, columns):
        return Tally(columns, "c")

    def test_any_value_as_columns(self):
        right = [("a",), ["a", "b"], ["a"], ("a", "text")]
        for value in [*any_values(), "a", "ab", {"a": "b"}, nested("a", 8, list), nested("a", 2, tuple)]:
            if not is_among(value, right):
                for make in (Pick, Unlike, self.tally):
                    self.assert_invalid("columns", make, value)

    def test_columns_are_different_and_at_least_one(self):
        for columns in ([], (), ["a", "a"], ("a", "b", "a"), ["b", "a", "a"]):
            for make in (Pick, Unlike, self.tally):
                self.assert_invalid("columns", make, columns)

    def test_any_value_as_a_cell(self):
        values = [value for value in any_values() if value is not None and not isinstance(value, (str, int))]
        for value in [*values, None, True, False, *WRONG_TEXTS, *WRONG_NUMBERS, -(10**5000)]:
            self.assert_invalid("cell", Fill, "a", value)

    def test_any_value_as_a_count(self):
        values = [value for value in any_values() if isinstance(value, bool) or not isinstance(value, int) or value < 1]
        for value in [*values, 0, -1, True, False, "1", 1.0, None]:
            self.assert_invalid("count", First, value)

    def test_any_value_as_orders(self):
        for value in any_values():
            if not is_among(value, [[("a", "up")]]):
                self.assert_invalid("by", Order, value)
            self.assert_invalid("by", Order, [("a", value)] if value != "up" else [("a", "Up")])
            if value != ("a", "up"):
                self.assert_invalid("by", Order, [value])
                self.assert_invalid("by", Order, [("b", "up"), value])

    def test_orders_are_tuples_of_two_with_different_names(self):
        for by in [
            [], (), ("a", "up"), [["a", "up"]], [("a",)], [("a", "up", "up")], [()], ["au"], [("up", "a")],
            [("a", "UP")],
            [("a", "up"), ("a", "up")], [("a", "up"), ("a", "down")], [("a", "up"), ("b", "up"), ("a", "down")],
            [("a", "left")], [("a", "")], [("a", True)], [("a", "up ")], {"a": "up"}, [("a", "up"), ("b",)], "a up",
        ]:
            self.assert_invalid("by", Order, by)

    def test_which_word_comes_first(self):
        for wrong in (None, 1, "is", [], ["a", "a"]):
            self.assert_invalid("column", Fill, wrong, None)
            self.assert_invalid("column", Fill, wrong, "a1")
            self.assert_invalid("columns", Tally, wrong, None)
            self.assert_invalid("columns", Tally, wrong, "is")
        self.assert_invalid("cell", Fill, "a", "a1")
        self.assert_invalid("name", Tally, ["a"], ["a"])


class Comparing(StepTest):
    def test_equal_if_the_texts_are(self):
        for one, text in WORDS:
            for other, beside in WORDS:
                self.assertIs(one == other, text == beside)
                self.assertIs(one != other, text != beside)
        for step, again in zip(some_steps(), some_steps()):
            self.assertIs(step == again, True)
            self.assertIs(step != again, False)
        self.assertIs(Pick(["a", "b"]) == Pick(("a", "b")), True)
        self.assertIs(Pick(["a", "b"]) == Pick(["b", "a"]), False)
        self.assertIs(Tally(["a"], "b") == Tally(["a"], "c"), False)
        self.assertIs(Order([("a", "up")]) == Order([("a", "down")]), False)
        self.assertIs(Fill("a", "x") == Fill("a", "X"), False)
        self.assertIs(First(1) == First(2), False)

    def test_what_all_steps_have_in_common(self):
        for one, text in WORDS:
            self.assertEqual(Step.__str__(one), text)
            for other, beside in WORDS:
                self.assertIs(Step.__eq__(one, other), text == beside)
            self.assertIs(Step.__eq__(one, text), False)

    def test_equal_to_nothing_of_another_class(self):
        for step in some_steps():
            for value in [*any_values(), str(step)]:
                if not isinstance(value, Step):
                    self.assertIs(step == value, False)
                    self.assertIs(value == step, False)
                    self.assertIs(step != value, True)


class Texts(StepTest):
    """The column "Text" of [15], and reading as [19] needs it."""

    def test_writing_and_reading(self):
        for step, text in WORDS:
            with self.subTest(text):
                self.assertEqual(str(step), text)
                read = read_step(text, 0)
                self.assertIs(read.__class__, step.__class__)
                self.assertEqual(read, step)
                self.assertEqual({**vars(read), "needs": 0, "told": 0}, {**vars(step), "needs": 0, "told": 0})

    def test_counts_of_any_size(self):
        for count in (1, 9, 10, 99, 100, 101, 10**6, 10**30 + 7, 12345678901234567890):
            self.assertEqual(str(First(count)), f"first {count}")
            self.assertEqual(read_step(f"first {count}", 0).count, count)
        self.assertEqual(str(First(10**5000)), "first 1" + "0" * 5000)
        self.assertEqual(read_step("first 1" + "0" * 1200, 0), First(10**1200))
        self.assertIs(First(10**5000) == First(10**5000 + 1), False)

    def test_names_and_cells(self):
        for name in RIGHT_NAMES:
            for verb, make in [("lower", Lower), ("trim", Trim), ("round", Round)]:
                self.assertEqual(read_step(f"{verb} {name}", 0), make(name))
        for name in WRONG_NAMES:
            for line in (
                f"lower {name}", f"trim {name}", f"round {name}", f"pick {name}", f"pick b {name}", f"unlike {name}",
                f"unlike {name} b", f"order {name} up", f"order b down {name} up", f'fill {name} "x"', f"fill {name} 1",
                f"tally {name} as c", f"tally b as {name}", f"where {name} lacks",
            ):
                self.assert_unreadable(line)
        for text in RIGHT_TEXTS:
            self.assertEqual(read_step(f'fill a "{text}"', 0).cell, text)
        for text in WRONG_TEXTS:
            self.assert_unreadable(f'fill a "{text}"')
        for number in RIGHT_NUMBERS:
            self.assertEqual(read_step(f"fill a {number}", 0).cell, number)
        for word in WRONG_DECIMALS:
            self.assert_unreadable(f"fill a {word}")
            if word not in ("1000001", "2000000", "9999999", "10000000", "9" * 1200):
                self.assert_unreadable(f"first {word}")

    def test_lines_that_are_near(self):
        for line in [
            "", " ", "home", "where", "where ", "where a", "where (a lacks)", "where a  lacks", "where a lacks ",
            "Where a lacks",
            "pick", "pick ", "pick a a", "pick a b a", "pick a, b", "pick  a", "pick a  b", "pick a ", " pick a",
            "pick *",
            "lower", "lower ", "lower a b", "lower  a", "lower a ", "LOWER a", "lowera", "lower\ta", "lower a\n",
            "trim", "trim a b", "trim a ", "round", "round n 10", "round  n", "round 10",
            "fill", "fill a", "fill a ", "fill a -", 'fill "x"', 'fill a  "x"', 'fill a "x" ', 'fill a "x" "y"',
            'fill a x',
            "fill a 'x'", 'fill a b "x"', "fill a with 1", "fill a 1 2", "fill a None", 'fill a "x', 'fill a x"',
            'fill a "',
            "unlike", "unlike ", "unlike a a", "unlike a,b", "unlike  a", "unlike a ", "unlike a up",
            "order", "order ", "order a", "order a b", "order up", "order a up b", "order a up n", "order a up a down",
            "order a up a up", "order a left", "order a UP", "order a  up", "order a up ", "order a up, n down",
            "order by a up",
            "order up a", "order a up down", "order a up  n down",
            "first", "first ", "first 0", "first -1", "first 01", "first +1", "first 1 ", "first  1", "first 1 2",
            "first one",
            "first 1.0", "first 1_0", "first a", "first \uff11", "first \u0661", "first \u00b2", "first -", "first 00",
            "tally", "tally a", "tally a as", "tally as c", "tally a c", "tally a as c d", "tally a as c as d",
            "tally a  as c",
            "tally a as  c", "tally a as c ", "tally a a as c", "tally a AS c", "tally a b c", "tally as",
            "tally as as c",
            "tally a as b as c", "tally  as c", "select a", "a lacks", "where a lacks\nfirst 1", "where a lacks and",
            "firsts 1",
        ]:
            self.assert_unreadable(line)

    def test_a_tally_may_tell_its_own_column_again(self):
        self.assertEqual(read_step("tally a as a", 0), Tally(["a"], "a"))

    def test_signs_left_out_put_in_or_doubled(self):
        for step, text in WORDS:
            if len(text) > 60:
                continue
            for at in range(len(text) + 1):
                near = [text[:at] + text[at + 1:], text[:at], text[at:]]
                for line in [*near, *[text[:at] + sign + text[at:] for sign in ' ()"-0a\n\t,']]:
                    try:
                        read = read_step(line, 0)
                    except InvalidText:
                        continue
                    self.assertEqual(str(read), line)


if __name__ == "__main__":
    unittest.main()

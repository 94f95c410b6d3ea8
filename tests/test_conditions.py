"""Promises [11] to [14]: tests, their truth and their texts."""

import re
import unittest
from itertools import product

from sentparts.conditions import And, Below, Is, Lacks, Not, Or, Test, read_test
from sentparts.errors import InvalidTest, InvalidText, NoColumn
from sentparts.ways import Ways
from tests.values import (
    PRINTED, RIGHT_NAMES, RIGHT_NUMBERS, RIGHT_TEXTS, WRONG_DECIMALS, WRONG_NAMES, WRONG_NUMBERS, WRONG_TEXTS, all_ways,
    any_values, is_among, nested,
)

CLASSES = [Is, Below, Lacks, Not, And, Or]
RULES = ["unknown", "unlike", "alike"]
TRUE, FALSE, UNKNOWN = Lacks("t"), Lacks("f"), Is("t", "x")
VALUES = {True: TRUE, False: FALSE, None: UNKNOWN}
CELLS = {"t": None, "f": "x"}
P, Q, R = Is("a", "x"), Below("n", -5), Lacks("b")
TEXTS = [
    (Is("a", "x"), 'a is "x"'),
    (Is("a", ""), 'a is ""'),
    (Is("abcd", "Xy  "), 'abcd is "Xy  "'),
    (Is("n", 0), "n is 0"),
    (Is("n", -1000000), "n is -1000000"),
    (Below("n", -5), "n below -5"),
    (Below("a", " "), 'a below " "'),
    (Lacks("a"), "a lacks"),
    (Not(P), 'not a is "x"'),
    (Not(Not(R)), "not not b lacks"),
    (And((P, Q)), 'a is "x" and n below -5'),
    (And((P, Q, R)), 'a is "x" and n below -5 and b lacks'),
    (Or((P, Q, R)), 'a is "x" or n below -5 or b lacks'),
    (And((P, P)), 'a is "x" and a is "x"'),
    (And((And((P, Q)), R)), '(a is "x" and n below -5) and b lacks'),
    (And((P, And((Q, R)))), 'a is "x" and (n below -5 and b lacks)'),
    (Or((Or((P, Q)), R)), '(a is "x" or n below -5) or b lacks'),
    (Or((And((P, Q)), R)), '(a is "x" and n below -5) or b lacks'),
    (And((Or((P, Q)), Or((Q, R)))), '(a is "x" or n below -5) and (n below -5 or b lacks)'),
    (Not(And((P, Q))), 'not (a is "x" and n below -5)'),
    (Not(Or((P, Q))), 'not (a is "x" or n below -5)'),
    (And((Not(P), Q)), 'not a is "x" and n below -5'),
    (Or((P, Not(Q))), 'a is "x" or not n below -5'),
    (Not(Not(Or((P, Not(And((Q, R))))))), 'not not (a is "x" or not (n below -5 and b lacks))'),
    (Or((Not(Or((P, Q))), R)), 'not (a is "x" or n below -5) or b lacks'),
    (And((Or((And((P, Or((Q, R)))), P)), Q)), '((a is "x" and (n below -5 or b lacks)) or a is "x") and n below -5'),
]
ATOM = re.compile(r'(?!(?:is|and|or|not|as|up|down) )[a-z]{1,4} (?:lacks|(?:is|below) (?:"([A-Za-z]* *)"|(-?\d+)))')


def shape(test):
    """What a test is made of."""
    if isinstance(test, Lacks):
        return ("lacks", test.column)
    if isinstance(test, (Is, Below)):
        return ("is" if isinstance(test, Is) else "below", test.column, test.cell)
    if isinstance(test, Not):
        return ("not", shape(test.test))
    return ("and" if isinstance(test, And) else "or", *[shape(part) for part in test.tests])


def mark_atom(match):
    """A sign in the place of an atom's text, which stays if its cell is none."""
    text, number = match.groups()
    if text is not None and len(text) > 10:
        return match.group()
    if number is not None and (str(int(number)) != number or abs(int(number)) > 10**6):
        return match.group()
    return "@"


def is_test_text(text):
    """Whether a string is the text of a test, found by putting one sign in the place of larger and larger parts."""
    if "@" in text or "#" in text:
        return False
    text, before = ATOM.sub(mark_atom, text), None
    while text != before:
        before = text
        text = re.sub(r"(?<![^( ])not [@#]", "@", text)
        text = re.sub(r"\([@#](?:(?: and [@#])+|(?: or [@#])+)\)", "#", text)
    return re.fullmatch(r"@|[@#](?:(?: and [@#])+|(?: or [@#])+)", text) is not None


def all_tests(depth):
    """All tests of two atoms that are so deep at most."""
    atoms = [Is("a", "x "), Lacks("b")]
    if depth == 0:
        return atoms
    parts = all_tests(depth - 1)
    pairs = list(product(parts, parts))
    return [*atoms, *map(Not, parts), *map(And, pairs), *map(Or, pairs)]


class ConditionTest(unittest.TestCase):
    def assert_invalid(self, word, make, *told):
        with self.subTest(make.__name__, word=word):
            with self.assertRaises(InvalidTest) as caught:
                make(*told)
            self.assertEqual(caught.exception.word, word)

    def assert_unreadable(self, text):
        with self.subTest(text):
            with self.assertRaises(InvalidText) as caught:
                read_test(text)
            self.assertEqual(caught.exception.at, 0)


class Atoms(ConditionTest):
    """Promise [11]."""

    def values(self, atom, cell, **rules):
        """The values of an atom at stores that differ in how tests take lacking cells."""
        return [atom.truth({"a": cell}, Ways(lacking=rule, **rules)) for rule in RULES]

    def assert_values(self, atom, cell, values, **rules):
        with self.subTest(str(atom), cell=cell, rules=rules):
            found = self.values(atom, cell, **rules)
            self.assertEqual(found, values)
            self.assertEqual([value.__class__ for value in found], [value.__class__ for value in values])

    def test_is_where_none_lacks(self):
        self.assert_values(Is("a", "x"), "x", [True] * 3)
        self.assert_values(Is("a", "x"), "y", [False] * 3)
        self.assert_values(Is("a", "x"), "X", [False] * 3)
        self.assert_values(Is("a", "x"), "x ", [False] * 3)
        self.assert_values(Is("a", ""), "", [True] * 3)
        self.assert_values(Is("a", ""), "x", [False] * 3)
        self.assert_values(Is("a", "x"), "", [False] * 3)
        self.assert_values(Is("a", 5), 5, [True] * 3)
        self.assert_values(Is("a", 5), 6, [False] * 3)
        self.assert_values(Is("a", 0), 0, [True] * 3, empty="lacks")

    def test_is_where_one_lacks(self):
        self.assert_values(Is("a", "x"), None, [None, False, False])
        self.assert_values(Is("a", ""), None, [None, False, False])
        self.assert_values(Is("a", 0), None, [None, False, False])
        self.assert_values(Is("a", "x"), "", [None, False, False], empty="lacks")
        self.assert_values(Is("a", ""), "x", [None, False, False], empty="lacks")
        self.assert_values(Is("a", " "), "x", [None, False, False], empty="lacks", blanks="dropped")

    def test_is_where_both_lack(self):
        self.assert_values(Is("a", ""), None, [None, False, True], empty="lacks")
        self.assert_values(Is("a", ""), "", [None, False, True], empty="lacks")
        self.assert_values(Is("a", "  "), " ", [None, False, True], empty="lacks", blanks="dropped")
        self.assert_values(Is("a", "  "), None, [None, False, True], empty="lacks", blanks="dropped")

    def test_below_where_none_lacks(self):
        self.assert_values(Below("a", "x"), "w", [True] * 3)
        self.assert_values(Below("a", "x"), "x", [False] * 3)
        self.assert_values(Below("a", "x"), "y", [False] * 3)
        self.assert_values(Below("a", "x"), "X", [True] * 3)
        self.assert_values(Below("a", "x"), "", [True] * 3)
        self.assert_values(Below("a", ""), "", [False] * 3)
        self.assert_values(Below("a", "x "), "x", [True] * 3)
        self.assert_values(Below("a", -5), -6, [True] * 3)
        self.assert_values(Below("a", -5), -5, [False] * 3)
        self.assert_values(Below("a", -5), 5, [False] * 3)
        self.assert_values(Below("a", 10), 9, [True] * 3)

    def test_below_where_one_or_both_lack(self):
        self.assert_values(Below("a", "x"), None, [None, False, False])
        self.assert_values(Below("a", 5), None, [None, False, False])
        self.assert_values(Below("a", "x"), None, [None, False, False], last=True)
        self.assert_values(Below("a", "x"), "", [None, False, False], empty="lacks")
        self.assert_values(Below("a", ""), "x", [None, False, False], empty="lacks")
        self.assert_values(Below("a", ""), "x", [None, False, False], empty="lacks", last=True)
        self.assert_values(Below("a", ""), "", [None, False, False], empty="lacks")
        self.assert_values(Below("a", ""), None, [None, False, False], empty="lacks")

    def test_lacks(self):
        self.assert_values(Lacks("a"), None, [True] * 3)
        self.assert_values(Lacks("a"), "x", [False] * 3)
        self.assert_values(Lacks("a"), 0, [False] * 3, empty="lacks")
        self.assert_values(Lacks("a"), "", [False] * 3)
        self.assert_values(Lacks("a"), "", [True] * 3, empty="lacks")
        self.assert_values(Lacks("a"), " ", [False] * 3, empty="lacks")
        self.assert_values(Lacks("a"), " ", [True] * 3, empty="lacks", blanks="dropped")

    def test_both_cells_are_compared_as_the_store_sees_them(self):
        self.assert_values(Is("a", "X "), "x", [True] * 3, case="folded", blanks="dropped")
        self.assert_values(Below("a", "X"), "x", [False] * 3, case="folded")
        self.assert_values(Below("a", "b"), "B", [True] * 3)
        self.assert_values(Below("a", "B"), "a", [True] * 3, case="folded")
        self.assert_values(Below("a", "x  "), "x", [False] * 3, blanks="dropped")
        self.assert_values(Is("a", 12), 14, [True] * 3, unit=10)
        self.assert_values(Is("a", 5), 15, [False] * 3, unit=10)
        self.assert_values(Is("a", 15), 25, [True] * 3, unit=10)
        self.assert_values(Is("a", 15), 25, [False] * 3, unit=10, halves="up")
        self.assert_values(Is("a", 15), 19, [True] * 3, unit=10, halves="cut")
        self.assert_values(Below("a", 15), 14, [True] * 3, unit=10)
        self.assert_values(Below("a", 15), 14, [False] * 3, unit=10, halves="cut")
        self.assert_values(Below("a", 24), 15, [False] * 3, unit=10)

    def test_all_ways(self):
        texts, numbers = [None, "", " ", "x", "X", "x ", "Y"], [None, -15, -5, 0, 4, 5, 15]
        for ways in all_ways():
            for cell, told in [*product(texts, texts[1:]), *product(numbers, numbers[1:])]:
                own, other = ways.seen(cell), ways.seen(told)
                same, less = own == other, None not in (own, other) and own < other
                if None in (own, other):
                    same = {"unknown": None, "unlike": False, "alike": same}[ways.lacking]
                    less = None if ways.lacking == "unknown" else False
                self.assertIs(Is("a", told).truth({"a": cell}, ways), same)
                self.assertIs(Below("a", told).truth({"a": cell}, ways), less)
                self.assertIs(Lacks("a").truth({"a": cell}, ways), own is None)


class Joined(ConditionTest):
    """Promise [12]."""

    def truth(self, test):
        return test.truth(CELLS, Ways())

    def test_the_tests_by_which_this_is_tested(self):
        self.assertEqual([self.truth(test) for test in (TRUE, FALSE, UNKNOWN)], [True, False, None])

    def test_not(self):
        self.assertIs(self.truth(Not(TRUE)), False)
        self.assertIs(self.truth(Not(FALSE)), True)
        self.assertIs(self.truth(Not(UNKNOWN)), None)

    def test_and_or_of_two(self):
        for (one, p), (other, q) in product(VALUES.items(), VALUES.items()):
            both = False if False in (one, other) else None if None in (one, other) else True
            either = True if True in (one, other) else None if None in (one, other) else False
            self.assertIs(self.truth(And((p, q))), both)
            self.assertIs(self.truth(Or([p, q])), either)

    def test_some_of_them_told_one_by_one(self):
        self.assertIs(self.truth(And((UNKNOWN, FALSE))), False)
        self.assertIs(self.truth(And((FALSE, UNKNOWN))), False)
        self.assertIs(self.truth(And((TRUE, UNKNOWN))), None)
        self.assertIs(self.truth(Or((UNKNOWN, TRUE))), True)
        self.assertIs(self.truth(Or((TRUE, UNKNOWN))), True)
        self.assertIs(self.truth(Or((FALSE, UNKNOWN))), None)

    def test_and_or_of_three_and_more(self):
        for count in (3, 4):
            for told in product(VALUES.items(), repeat=count):
                values, tests = [value for value, _ in told], [test for _, test in told]
                both = False if False in values else None if None in values else True
                either = True if True in values else None if None in values else False
                self.assertIs(self.truth(And(tests)), both)
                self.assertIs(self.truth(Or(tests)), either)

    def test_within_one_another(self):
        self.assertIs(self.truth(Not(And((UNKNOWN, TRUE)))), None)
        self.assertIs(self.truth(Not(Or((UNKNOWN, TRUE)))), False)
        self.assertIs(self.truth(And((Not(FALSE), Or((FALSE, Not(UNKNOWN)))))), None)
        self.assertIs(self.truth(Or((And((UNKNOWN, FALSE)), Not(FALSE)))), True)

    def test_the_signs(self):
        for made, told in [
            (P & Q, And((P, Q))), (P | Q, Or((P, Q))), (~P, Not(P)), (P & Q & R, And((And((P, Q)), R))),
            (P | Q | R, Or((Or((P, Q)), R))), (~~P, Not(Not(P))), (P & (Q & R), And((P, And((Q, R))))),
            (P | Q & R, Or((P, And((Q, R))))), (~P & Q, And((Not(P), Q))), (~(P | Q), Not(Or((P, Q)))),
            (P & P, And((P, P))),
        ]:
            with self.subTest(str(told)):
                self.assertEqual(shape(made), shape(told))
                self.assertEqual(made, told)
        self.assertIs((~P).test, P)
        self.assertIs((P & Q).tests[0], P)
        self.assertIs((P | Q).tests[1], Q)

    def test_in_place_signs_make_new_tests(self):
        for change, made in [("&", And((P, Q))), ("|", Or((P, Q)))]:
            test = kept = Is("a", "x")
            if change == "&":
                test &= Q
            else:
                test |= Q
            self.assertEqual(test, made)
            self.assertEqual(kept, Is("a", "x"))
            self.assertIsNot(test, kept)

    def test_signs_take_tests_alone(self):
        for value in (None, True, "a lacks", [P]):
            with self.assertRaises(TypeError):
                P & value
            with self.assertRaises(TypeError):
                P | value


class Making(ConditionTest):
    """Promise [13]: constructors and attributes."""

    def test_arguments_are_attributes(self):
        for make in (Is, Below):
            for cell in [*RIGHT_TEXTS, *RIGHT_NUMBERS]:
                for test in (make("abcd", cell), make(cell=cell, column="abcd")):
                    self.assertEqual((test.column, test.cell), ("abcd", cell))
                    self.assertIs(test.cell.__class__, cell.__class__)
        self.assertEqual(Lacks(column="a").column, "a")
        self.assertIs(Not(test=P).test, P)
        for make, tests in product((And, Or), ([P, Q], (P, Q, R, P))):
            test = make(tests=tests)
            self.assertIs(test.tests.__class__, tuple)
            self.assertEqual([id(part) for part in test.tests], [id(part) for part in tests])

    def test_classes(self):
        for made in (Is("a", "x"), Below("a", "x"), Lacks("a"), Not(P), And((P, Q)), Or((P, Q))):
            self.assertIsInstance(made, Test)
            self.assertEqual([isinstance(made, each) for each in CLASSES], [made.__class__ is each for each in CLASSES])
        for one, other in product(CLASSES, CLASSES):
            self.assertEqual(issubclass(one, other), one is other)
        for each in CLASSES:
            self.assertFalse(issubclass(Test, each))

    def test_columns_that_are_names(self):
        for name in RIGHT_NAMES:
            self.assertEqual([make(name, "x").column for make in (Is, Below)] + [Lacks(name).column], [name] * 3)

    def test_any_value_as_a_column(self):
        names = ["last", "none", *RIGHT_NAMES]
        for value in [*[value for value in any_values() if not is_among(value, names)], *WRONG_NAMES]:
            self.assert_invalid("column", Is, value, "x")
            self.assert_invalid("column", Below, value, 1)
            self.assert_invalid("column", Lacks, value)

    def test_any_value_as_a_cell(self):
        values = [value for value in any_values() if value is not None and not isinstance(value, (str, int))]
        for value in [*values, None, True, False, *WRONG_TEXTS, *WRONG_NUMBERS, -(10**5000)]:
            self.assert_invalid("cell", Is, "a", value)
            self.assert_invalid("cell", Below, "a", value)

    def test_the_column_comes_ahead_of_the_cell(self):
        for column, cell in product([None, "is", 1, P, ["a"]], [None, True, "a1", P, ["x"]]):
            self.assert_invalid("column", Is, column, cell)
            self.assert_invalid("column", Below, column, cell)

    def test_any_value_as_a_test(self):
        for value in any_values():
            if not isinstance(value, Test):
                self.assert_invalid("test", Not, value)

    def test_any_value_as_tests(self):
        for value in any_values():
            if not isinstance(value, (list, tuple)) or not all(isinstance(each, Test) for each in value):
                self.assert_invalid("tests", And, value)
                self.assert_invalid("tests", Or, value)
            if not isinstance(value, Test):
                for tests in ([P, value], (value, P), [P, Q, value], [P, value, Q]):
                    self.assert_invalid("tests", And, tests)
                    self.assert_invalid("tests", Or, tests)

    def test_at_least_two_tests(self):
        for tests in ([], (), [P], (P,), P, None, {"a": P, "b": Q}, nested(P, 8, list)):
            self.assert_invalid("tests", And, tests)
            self.assert_invalid("tests", Or, tests)

    def test_lists_can_be_changed_behind(self):
        for make in (And, Or):
            tests = [P, Q]
            test = make(tests)
            self.assertEqual(tests, [P, Q])
            tests.append(R)
            tests[0] = R
            self.assertEqual(test.tests, (P, Q))
            self.assertEqual(test, make((P, Q)))
            self.assertEqual(test.columns, ("a", "n"))
            self.assertEqual(test.truth({"a": "x", "n": -6, "b": "x"}, Ways()), True)

    def test_columns(self):
        for test, columns in [
            (Is("a", "x"), ("a",)), (Below("n", 1), ("n",)), (Lacks("b"), ("b",)), (~Lacks("b"), ("b",)),
            (Lacks("c") & Lacks("a") & Lacks("b"), ("a", "b", "c")),
            (Lacks("b") | Is("a", "x") | Is("b", "y"), ("a", "b")),
            (Or((Not(Lacks("zz")), And((Lacks("z"), Lacks("a"))))), ("a", "z", "zz")), (P & P, ("a",)),
        ]:
            with self.subTest(str(test)):
                self.assertEqual(test.columns, columns)
                self.assertIs(test.columns.__class__, tuple)

    def test_atoms(self):
        for test, atoms in [
            (P, [P]), (R, [R]), (~P, [P]), (P & Q, [P, Q]), (Q & P, [Q, P]), (P & P, [P]), (P | ~P, [P]),
            (Or((Q, And((R, Q, P)), Not(R), Is("a", "y"))), [Q, R, P, Is("a", "y")]),
            (Is("a", "x") & Below("a", "x") & Is("a", "X"), [Is("a", "x"), Below("a", "x"), Is("a", "X")]),
            (Not(Not(And((R, Or((R, P)))))), [R, P]),
        ]:
            with self.subTest(str(test)):
                self.assertIs(test.atoms.__class__, tuple)
                self.assertEqual([shape(atom) for atom in test.atoms], [shape(atom) for atom in atoms])


class Truth(ConditionTest):
    """Promise [13]: what truth is called with."""

    def test_other_cells_do_not_matter(self):
        cells = {"b": None, "a": "x", "n": 1, "zz": "y"}
        self.assertIs(P.truth(cells=cells, ways=Ways()), True)
        self.assertIs((P & R).truth(cells, Ways()), True)
        self.assertEqual(cells, {"b": None, "a": "x", "n": 1, "zz": "y"})

    def test_the_first_lacking_column_is_told(self):
        test = Or((Lacks("d"), Is("b", "x"), Not(Lacks("a")), Lacks("c")))
        for names in product([False, True], repeat=4):
            cells = {name: None for name, is_there in zip("abcd", names) if is_there}
            missing = [name for name in "abcd" if name not in cells]
            if not missing:
                self.assertIs(test.truth(cells, Ways()), True)
                continue
            with self.assertRaises(NoColumn) as caught:
                test.truth(cells, Ways())
            self.assertEqual(caught.exception.name, missing[0])

    def test_no_column_also_where_the_others_tell_enough(self):
        tests = [Lacks("a") | Lacks("b"), Not(Lacks("a")) & Lacks("b"), P, Below("b", "x"), Lacks("b"), Not(Lacks("b"))]
        for test in tests:
            with self.assertRaises(NoColumn) as caught:
                test.truth({"a": None} if "b" in test.columns else {"aa": None}, Ways())
            self.assertEqual(caught.exception.name, "b" if "b" in test.columns else "a")
        with self.assertRaises(NoColumn):
            P.truth({}, Ways())

    def test_a_cell_that_is_not_there_is_no_lacking_column(self):
        self.assertIs(P.truth({"a": None}, Ways()), None)


class Comparing(ConditionTest):
    def test_equal_if_the_texts_are(self):
        tests = all_tests(2)
        for one in tests[::7]:
            for other in tests:
                self.assertIs(one == other, shape(one) == shape(other))
                self.assertIs(one == other, str(one) == str(other))
                self.assertIs(one != other, str(one) != str(other))

    def test_unequal(self):
        self.assertIs(Is("a", "x") == Below("a", "x"), False)
        self.assertIs(Is("a", "x") == Is("a", "X"), False)
        self.assertIs(Is("a", "x") == Is("a", "x "), False)
        self.assertIs(Is("a", "x") == Is("b", "x"), False)
        self.assertIs(P & Q == Q & P, False)
        self.assertIs(P & Q == P | Q, False)
        self.assertIs(And((P, Q, R)) == P & Q & R, False)
        self.assertIs(~~P == P, False)

    def test_equal_to_nothing_of_another_class(self):
        for value in [*any_values(), str(P), ("a", "x")]:
            if not isinstance(value, Test):
                self.assertIs(P == value, False)
                self.assertIs(value == P, False)
                self.assertIs(P != value, True)


class Texts(ConditionTest):
    """Promise [14]."""

    def test_writing_and_reading(self):
        for test, text in TEXTS:
            with self.subTest(text):
                self.assertEqual(str(test), text)
                self.assertEqual(shape(read_test(text)), shape(test))
                self.assertEqual(read_test(text=text), test)
                self.assertTrue(is_test_text(text))

    def test_there_and_back(self):
        texts = {}
        for test in all_tests(2):
            self.assertEqual(shape(read_test(str(test))), shape(test))
            texts[str(test)] = shape(test)
        self.assertEqual(len(texts), len(set(texts.values())))

    def test_all_cells(self):
        for verb, make in [("is", Is), ("below", Below)]:
            for text in RIGHT_TEXTS:
                self.assertEqual(str(make("a", text)), f'a {verb} "{text}"')
                self.assertEqual(shape(read_test(f'a {verb} "{text}"')), (verb, "a", text))
            for number in [*RIGHT_NUMBERS, *range(-120, 121)]:
                self.assertEqual(str(make("a", number)), f"a {verb} {number}")
                self.assertEqual(shape(read_test(f"a {verb} {number}")), (verb, "a", number))
            for text in WRONG_TEXTS:
                self.assert_unreadable(f'a {verb} "{text}"')
            for word in WRONG_DECIMALS:
                self.assert_unreadable(f"a {verb} {word}")
                self.assert_unreadable(f"b lacks and (a {verb} {word} or c lacks)")

    def test_all_names(self):
        for name in RIGHT_NAMES:
            self.assertEqual(read_test(f"{name} lacks").column, name)
            self.assertEqual(read_test(f'not {name} below "x"').test.column, name)
        for name in WRONG_NAMES:
            for verb in ("lacks", 'is "x"', "below 1"):
                self.assert_unreadable(f"{name} {verb}")
                self.assert_unreadable(f"not {name} {verb}")
                self.assert_unreadable(f"a lacks or {name} {verb}")

    def test_needless_and_lacking_parentheses(self):
        for text in [
            "(a lacks)", "((a lacks))", "not (a lacks)", "(not a lacks)", "(a lacks) and b lacks",
            "a lacks and (b lacks)",
            "(a lacks and b lacks)", "((a lacks and b lacks)) or c lacks", "(not a lacks) and b lacks",
            "not (not a lacks)",
            "a lacks and (not b lacks)", "(a lacks or b lacks)", "not ((a lacks or b lacks))",
            "a lacks and b lacks or c lacks",
            "a lacks or b lacks and c lacks", "(a lacks and b lacks or c lacks) and d lacks", "()", "(", ")", "( )",
            "not ()",
            "a lacks and ()", "(a lacks", "a lacks)", ")a lacks(", "(a lacks and b lacks", "a lacks and b lacks)",
            "(a lacks and b lacks))", "((a lacks and b lacks)", "a lacks) and (b lacks", "(a) lacks", "a (lacks)",
            '(a is) "x"', 'a is ("x")', "(a lacks and) b lacks", "a lacks (and b lacks)", "a lacks () and b lacks",
        ]:
            self.assert_unreadable(text)

    def test_blanks(self):
        for text in [
            "", " ", "a  lacks", " a lacks", "a lacks ", "a\tlacks", "a\nlacks", "a lacks\n", "\na lacks", "alacks",
            'a  is "x"', 'a is  "x"', 'a is"x"', 'a is "x" ', "a is  1", "not  a lacks", "notab lacks",
            "a lacks  and b lacks",
            "a lacks and  b lacks", "a lacks and b lacks ", "a lacksand b lacks", "not(a lacks and b lacks)",
            "not ( a lacks and b lacks)", "not (a lacks and b lacks )", "(a lacks and b lacks)or c lacks",
            "(a lacks and b lacks) or  c lacks", "a lacks or(b lacks and c lacks)", 'a is "x"and b lacks',
            'a is "x"or b lacks',
            "(a lacks and b lacks)  or c lacks", "not\nnot a lacks", "not\u00a0a lacks", "a\u00a0lacks",
        ]:
            self.assert_unreadable(text)

    def test_words(self):
        for text in [
            "a", "lacks", "a lack", "a Lacks", "A lacks", "a lacks lacks", "a a lacks", "a is", 'is "x"', 'a "x"',
            "a below",
            'a is not "x"', "a is lacks", "a is a", "a is b", "a is none", "a is -", "a is None", 'a equals "x"',
            'a = "x"',
            'a Is "x"', 'a iS "x"', 'a lacks "x"', 'a is "x" "x"', 'a is "x" 1', "a is 1 1", "a below 1 lacks",
            "a is 'x'",
            'a is "x', 'a is x"', 'a is "', 'a is """', 'a is ""x"', "a is x", "not", "and", "or", "not not",
            "not and", "a not lacks",
            "a lacks and", "and a lacks", "or a lacks", "a lacks or", "a lacks and and b lacks",
            "a lacks and or b lacks",
            "a lacks not", "a lacks not b lacks", "a lacks b lacks", "a lacks, b lacks", "not lacks", "a lacks and not",
            "a lacks AND b lacks", "NOT a lacks", "a lacks & b lacks", "~a lacks", "a lacks.", "True", "1", '"x"',
            '"x" is "x"',
            "1 is 1", "a is 1.0", "a below -", "a below --1", '"a" lacks', '"a lacks"', "a lacks not and b lacks",
        ]:
            self.assert_unreadable(text)

    def test_strings_one_sign_away(self):
        for text in [text for _, text in TEXTS]:
            for at in range(len(text) + 1):
                ahead, sign, behind = text[:at], text[at:at + 1], text[at + 1:]
                near = [ahead + new + sign + behind for new in ' ()"-0a1\n']
                near += [ahead + behind, ahead + sign + sign + behind, ahead, sign + behind]
                for string in near:
                    if is_test_text(string):
                        self.assertEqual(str(read_test(string)), string)
                    else:
                        self.assert_unreadable(string)

    def test_each_sign_in_the_place_of_another(self):
        text = 'not (a is "x" or n below -5)'
        for at, sign in product(range(len(text)), PRINTED):
            string = text[:at] + sign + text[at + 1:]
            if is_test_text(string):
                self.assertEqual(str(read_test(string)), string)
            else:
                self.assert_unreadable(string)

    def test_long_texts(self):
        for text in [
            "not " * 300 + "a lacks", " and ".join(["a lacks"] * 100), " or ".join(['a is "x"'] * 100),
            "(" * 80 + "a lacks" + " or b lacks)" * 80 + " and a lacks", "not (a lacks or " * 60 + "b lacks" + ")" * 60,
        ]:
            test = read_test(text)
            self.assertEqual(str(test), text)
            self.assertIn(test.truth({"a": "y", "b": "y"}, Ways()), (True, False))
        self.assertIs(read_test("not " * 299 + "a lacks").truth({"a": "x"}, Ways()), True)
        for text in ["(" * 1300, ")" * 1300, "(" * 650 + ")" * 650, "not " * 325, '"' * 1300]:
            self.assert_unreadable(text)
        self.assert_unreadable("(" * 600 + "a lacks" + ")" * 600)


if __name__ == "__main__":
    unittest.main()

"""Values that several tests need."""

from itertools import product

from sentparts import errors
from sentparts.conditions import And, Below, Is, Lacks, Not, Or
from sentparts.plans import Plan
from sentparts.questions import Question
from sentparts.steps import Fill, First, Lower, Order, Pick, Round, Tally, Trim, Unlike, Where
from sentparts.tables import Table
from sentparts.ways import Ways

CHOICES = {
    "case": ["exact", "folded"],
    "blanks": ["kept", "dropped"],
    "empty": ["text", "lacks"],
    "lacking": ["unknown", "unlike", "alike"],
    "last": [False, True],
    "unit": [1, 2, 5, 10],
    "halves": ["up", "even", "cut"],
}
LOWER = "abcdefghijklmnopqrstuvwxyz"
PRINTED = "".join(map(chr, range(32, 127)))
RIGHT_NAMES = [*LOWER, "ab", "abc", "abcd", "zzzz", "i", "iss", "an", "text", "upp", "dow", "nots", "asa", "o", "home"]
WRONG_NAMES = [
    "is", "and", "or", "not", "as", "up", "down", "", "abcde", "number", "A", "aB", "a1", "1", "a ", " a", "a_", "_",
    "a\n", "\u00e9", "\u212a", "\u0131", "a,", '"a"', "-", *[f"a{sign}" for sign in PRINTED if sign not in LOWER],
]
RIGHT_TEXTS = ["", " ", " " * 10, "a", "Z", "zA", "a ", "AbCdEfGhIj", "AbCdEfGhI ", "a" + " " * 9, LOWER[:10],
               LOWER[10:20], LOWER[16:], LOWER.upper()[:10], LOWER.upper()[10:20], LOWER.upper()[16:]]
WRONG_TEXTS = [" " * 11, "a" * 11, "a" * 10 + " ", " a", "a b", "a1", "1", "-", "a-", "a\n", "\n", "\t", "a\t", "a.",
               "\u00e9", "\u212a", "\u017f", "\u00a0", "a\u00a0", '"', '"a"', "a,",
               *[f"a {sign}" for sign in PRINTED[1:]], *[f"a{sign}b" for sign in PRINTED if not sign.isalpha()]]
RIGHT_NUMBERS = [0, 1, -1, 9, 10, -10, 999999, -999999, 10**6, -10**6]
WRONG_NUMBERS = [10**6 + 1, -10**6 - 1, 10**7, 10**5000, True, False]
WRONG_DECIMALS = [
    "-0", "00", "01", "-01", "007", "0000000", "0000001", "+1", "+0", "--1", "1-", "1.0", "1e3", "1_000", " 1",
    "1 ", "0x1", "1000001", "-1000001", "2000000", "9999999", "10000000", "-10000000", "9" * 1200, "0" * 1200,
    "- 1", "one", "\uff11", "\u0661", "\u00b2", "True", "1a", "a", "-", "",
]


def nested(value, depth, kind):
    """The value in so many lists or tuples, one in the other."""
    for _ in range(depth):
        value = kind([value])
    return value


def some_tests():
    """Tests, one or two of each class."""
    one, other = Is("a", "x"), Below("n", -5)
    return [one, other, Lacks("b"), Not(one), And((one, other)), Or([one, Not(other)]), Is("a", "")]


def some_steps():
    """Steps, one of each class."""
    return [
        Where(Is("a", "x")), Pick(["a"]), Lower("a"), Trim("a"), Round("n"), Fill("a", "x"), Unlike(["a"]),
        Order([("a", "up")]), First(1), Tally(["a"], "c"),
    ]


def some_questions():
    """Questions, with and without steps, and plans."""
    question = Question([("a", "text")], [Lower("a"), First(1)])
    return [Question([("a", "text")]), question, Plan.cut(question, 1)]


def any_values():
    """Values of each kind of which "any value" may be."""
    return [
        0, 1, -1, 2, 3, 5, 10, -10, 20, 1000000, 10**30, -(10**5000),
        True, False, None,
        "", " ", "a", "x", "X", "1", "10", "False", "True", "first", "last", "None", "text", "number", "exact ",
        "Exact", "\u212a", "\u00e9", "\n", "a text", "up", "a lacks", "where a lacks",
        (), [], (1,), [1], ("exact",), ["exact"], [None], (True,), [[]], ((),), [()],
        ("a", "text"), [("a", "text")], (("a", "text"),), [["a", "text"]], [("a", "up")], ("a",), ["a", "b"],
        nested("exact", 8, list), nested(1, 8, tuple), nested((), 7, list), [1, "x", None, True, (2, [3])],
        Ways(), Ways(last=True, unit=10), Table([("a", "text")]), Table([("n", "number")], [[1]]),
        errors.Mismatch(), errors.NoRow(1), errors.NoColumn("a"), errors.InvalidTable("row"),
        [Ways()], (Table([("a", "text")]),),
        *some_tests(), *some_steps(), *some_questions(), some_tests(), tuple(some_steps()), some_questions(),
        [Is("a", "x")], [First(1), Is("a", "x")],
    ]


def is_among(value, choices):
    """Whether the very value is among the choices (True is not 1)."""
    return any(value.__class__ is choice.__class__ and value == choice for choice in choices)


def all_ways():
    """All ways that there are."""
    return [Ways(*told) for told in product(*CHOICES.values())]

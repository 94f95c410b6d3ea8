"""Values that several tests need."""

from itertools import product

from sentparts import errors
from sentparts.tables import Table
from sentparts.ways import Ways

CHOICES = {
    "case": ["exact", "folded"],
    "blanks": ["kept", "dropped"],
    "empty": ["text", "lacks"],
    "lacking": ["unknown", "unlike", "alike"],
    "last": [False, True],
    "unit": [1, 2, 5, 10],
    "halves": ["up", "even", "cut"],
}


def nested(value, depth, kind):
    """The value in so many lists or tuples, one in the other."""
    for _ in range(depth):
        value = kind([value])
    return value


def any_values():
    """Values of each kind of which "any value" may be."""
    return [
        0, 1, -1, 2, 3, 5, 10, -10, 20, 1000000, 10**30, -(10**5000),
        True, False, None,
        "", " ", "a", "x", "X", "1", "10", "False", "True", "first", "last", "None", "text", "number", "exact ",
        "Exact", "\u212a", "\u00e9", "\n", "a text",
        (), [], (1,), [1], ("exact",), ["exact"], [None], (True,), [[]], ((),), [()],
        ("a", "text"), [("a", "text")], (("a", "text"),), [["a", "text"]],
        nested("exact", 8, list), nested(1, 8, tuple), nested((), 7, list), [1, "x", None, True, (2, [3])],
        Ways(), Ways(last=True, unit=10), Table([("a", "text")]), Table([("n", "number")], [[1]]),
        errors.Mismatch(), errors.NoRow(1), errors.NoColumn("a"), errors.InvalidTable("row"),
        [Ways()], (Table([("a", "text")]),),
    ]


def is_among(value, choices):
    """Whether the very value is among the choices (True is not 1)."""
    return any(value.__class__ is choice.__class__ and value == choice for choice in choices)


def all_ways():
    """All ways that there are."""
    return [Ways(*told) for told in product(*CHOICES.values())]

"""The written rules of a store."""

from sentparts.errors import InvalidText, InvalidWays

RULES = (
    ("case", ("exact", "folded")),
    ("blanks", ("kept", "dropped")),
    ("empty", ("text", "lacks")),
    ("lacking", ("unknown", "unlike", "alike")),
    ("last", (False, True)),
    ("unit", (1, 2, 5, 10)),
    ("halves", ("up", "even", "cut")),
)
PLACES = {"first": False, "last": True}
UNITS = {"1": 1, "2": 2, "5": 5, "10": 10}

# None and all other values can be passed as a rule (a wrong one), but bytes are no value.
LEFT_OUT = b"left out"


class Ways:
    """The rules by which a store sees, compares and orders cells."""

    def __init__(self, case="exact", blanks="kept", empty="text", lacking="unknown", last=False, unit=1, halves="even"):
        word = _first_wrong((case, blanks, empty, lacking, last, unit, halves))
        if word is not None:
            raise InvalidWays(word)
        self.case = case
        self.blanks = blanks
        self.empty = empty
        self.lacking = lacking
        self.last = last
        self.unit = unit
        self.halves = halves

    @classmethod
    def read(cls, text):
        """The ways with this text."""
        words = text.split(" ")
        if len(words) != len(RULES) or words[4] not in PLACES or words[5] not in UNITS:
            raise InvalidText(0)
        case, blanks, empty, lacking, place, unit, halves = words
        try:
            return cls(case, blanks, empty, lacking, PLACES[place], UNITS[unit], halves)
        except InvalidWays:
            raise InvalidText(0) from None

    def but(
        self,
        *,
        case=LEFT_OUT,
        blanks=LEFT_OUT,
        empty=LEFT_OUT,
        lacking=LEFT_OUT,
        last=LEFT_OUT,
        unit=LEFT_OUT,
        halves=LEFT_OUT,
    ):
        """These ways, with the rules that are passed in the place of their own."""
        return Ways(
            _passed_or(case, self.case),
            _passed_or(blanks, self.blanks),
            _passed_or(empty, self.empty),
            _passed_or(lacking, self.lacking),
            _passed_or(last, self.last),
            _passed_or(unit, self.unit),
            _passed_or(halves, self.halves),
        )

    def rounded(self, number):
        """The multiple of the unit to which the store rounds a number."""
        times, rest = divmod(number, self.unit)
        if self._goes_up(number, times, rest):
            return (times + 1) * self.unit
        return times * self.unit

    def _goes_up(self, number, times, rest):
        """Whether a number, so many times the unit and a rest, is rounded to the greater multiple."""
        if self.halves == "cut":
            return number < 0 and rest > 0
        if 2 * rest != self.unit:
            return 2 * rest > self.unit
        return self.halves == "up" or (times & 1) == 1

    def seen(self, cell):
        """What the store sees of a cell."""
        if cell is None:
            return None
        if isinstance(cell, str):
            return self._seen_text(cell)
        return self.rounded(cell)

    def _seen_text(self, text):
        """What the store sees of a text."""
        if self.blanks == "dropped":
            text = text.rstrip(" ")
        if self.case == "folded":
            text = text.lower()
        if text == "" and self.empty == "lacks":
            return None
        return text

    def alike(self, one, other):
        """Whether the store sees the same of two cells."""
        return self.seen(one) == self.seen(other)

    def ahead(self, one, other):
        """Whether the first cell comes ahead of the other one in the store's order."""
        first = self.seen(one)
        second = self.seen(other)
        if first is None and second is None:
            return False
        if first is None:
            return not self.last
        if second is None:
            return self.last
        return first < second

    def __eq__(self, other):
        return (
            isinstance(other, Ways)
            and self.case == other.case
            and self.blanks == other.blanks
            and self.empty == other.empty
            and self.lacking == other.lacking
            and self.last == other.last
            and self.unit == other.unit
            and self.halves == other.halves
        )

    def __str__(self):
        return " ".join([
            self.case,
            self.blanks,
            self.empty,
            self.lacking,
            "last" if self.last else "first",
            str(self.unit),
            self.halves,
        ])


def _is_one_of(value, choices):
    """Whether a value is one of a rule's choices, which are of one kind."""
    # Python takes True for 1, so a bool may stand only where bools are asked.
    if isinstance(value, bool) != isinstance(choices[0], bool):
        return False
    return isinstance(value, (str, int)) and value in choices


def _first_wrong(told):
    """The name of the first rule that is wrong, None if all are right."""
    for (name, choices), value in zip(RULES, told):
        if not _is_one_of(value, choices):
            return name
    return None


def _passed_or(told, own):
    """A rule that was passed, or else one's own."""
    if isinstance(told, bytes) and told == LEFT_OUT:
        return own
    return told

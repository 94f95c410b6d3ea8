"""Questions: steps, one after another, over tables with the same columns."""

from sentparts.cells import are_columns, is_sequence, read_count, read_told
from sentparts.conditions import read_test
from sentparts.errors import InvalidQuestion, InvalidStep, InvalidText, Mismatch, NoStep
from sentparts.steps import Fill, First, Lower, Order, Pick, Round, Step, Tally, Trim, Unlike, Where
from sentparts.tables import Table


class Question:
    """A row of steps over tables with these columns."""

    def __init__(self, columns, steps=()):
        if not are_columns(columns):
            raise InvalidQuestion(-1, "columns")
        if not _are_steps(steps):
            raise InvalidQuestion(-1, "steps")
        self.columns = tuple(columns)
        self.steps = tuple(steps)
        self.stages = _stages(self.columns, self.steps)
        self.ends = self.stages[-1]
        self.text = "\n".join([step.text for step in steps])

    @classmethod
    def read(cls, columns, text):
        """The question over these columns with this text."""
        if text == "":
            return cls(columns)
        return cls(columns, [read_step(line, at) for at, line in enumerate(text.split("\n"))])

    def run(self, table, ways):
        """The table that the steps make of a table at a store."""
        if table.columns != self.columns:
            raise Mismatch()
        rows = table.rows
        for at, step in enumerate(self.steps):
            rows = step.rows_behind(rows, self.stages[at], ways)
        return Table(self.ends, rows)

    def without(self, at):
        """The question that leaves out a step."""
        if not 0 <= at < len(self.steps):
            raise NoStep(at)
        return Question(self.columns, self.steps[:at] + self.steps[at + 1:])

    def upto(self, at):
        """The question of the first steps, so many."""
        if not 0 <= at <= len(self.steps):
            raise NoStep(at)
        return Question(self.columns, self.steps[:at])

    def behind(self, at):
        """The question of the steps behind the first ones, so many."""
        if not 0 <= at <= len(self.steps):
            raise NoStep(at)
        return Question(self.stages[at], self.steps[at:])

    def __len__(self):
        return len(self.steps)

    def __getitem__(self, at):
        # Python would count numbers below 0 from the end, and here they are no steps.
        if not 0 <= at < len(self.steps):
            raise NoStep(at)
        return self.steps[at]

    def __iter__(self):
        raise TypeError("a question is not iterable")

    def __rshift__(self, other):
        if not isinstance(other, Question):
            return NotImplemented
        if self.ends != other.columns:
            raise Mismatch()
        return Question(self.columns, self.steps + other.steps)

    def __eq__(self, other):
        return isinstance(other, Question) and self.columns == other.columns and self.text == other.text

    def __str__(self):
        return str(self.text)


def _are_steps(value):
    """Whether a value is a sequence of steps."""
    return is_sequence(value) and all([isinstance(step, Step) for step in value])


def _stages(columns, steps):
    """The columns ahead of each step, and those in the end; InvalidQuestion for a step that can't be done."""
    stages = [columns]
    for at, step in enumerate(steps):
        word = _first_wrong(step, stages[at], steps[:at])
        if word is not None:
            raise InvalidQuestion(at, word)
        stages.append(step.columns_behind(stages[at]))
    return tuple(stages)


def _first_wrong(step, columns, ahead):
    """The word for why a step can't be done to these columns behind these steps, None if it can."""
    sorts = dict(columns)
    if not all([name in sorts for name in step.told]):
        return "column"
    if not all([sorts[name] == sort for name, sort in step.needs]):
        return "sort"
    if isinstance(step, Tally) and step.name in step.columns:
        return "new"
    if _is_out_of_place(step, ahead):
        return "place"
    return None


def _is_out_of_place(step, ahead):
    """Whether a step can't stand behind these, which are in their places, whatever the columns are."""
    if any([isinstance(each, Tally) for each in ahead]):
        return True
    if not is_meeting(step) or not any([is_meeting(each) for each in ahead]):
        return False
    # An Order is the first meeting step, or it would not be in its place.
    return not (isinstance(step, First) and isinstance(ahead[-1], Order))


def is_meeting(step):
    """Whether rows meet one another in a step."""
    return isinstance(step, (Unlike, Order, First, Tally))


# Each reader is passed what stands behind the first word. It may take too much for a step: read_step looks again.


def _read_where(words):
    return Where(read_test(words))


def _read_pick(words):
    return Pick(words.split(" "))


def _read_lower(words):
    return Lower(words)


def _read_trim(words):
    return Trim(words)


def _read_round(words):
    return Round(words)


def _read_fill(words):
    column, _, cell = words.partition(" ")
    return Fill(column, read_told(cell))


def _read_unlike(words):
    return Unlike(words.split(" "))


def _read_order(words):
    told = words.split(" ")
    return Order(list(zip(told[::2], told[1::2])))


def _read_first(words):
    return First(read_count(words))


def _read_tally(words):
    told = words.split(" ")
    return Tally(told[:-2], told[-1])


READERS = {
    "where": _read_where,
    "pick": _read_pick,
    "lower": _read_lower,
    "trim": _read_trim,
    "round": _read_round,
    "fill": _read_fill,
    "unlike": _read_unlike,
    "order": _read_order,
    "first": _read_first,
    "tally": _read_tally,
}


def read_step(line, at):
    """The step with this text, which is the line with the number at."""
    verb, _, words = line.partition(" ")
    if verb not in READERS:
        raise InvalidText(at)
    reader = READERS[verb]
    try:
        step = reader(words)
    except (InvalidStep, InvalidText):
        raise InvalidText(at) from None
    # Readers take leading zeros, and leave words over at the end.
    if step.text != line:
        raise InvalidText(at)
    return step

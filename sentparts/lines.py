"""The steps of which lines of text are the texts."""

from sentparts.cells import read_count, read_told
from sentparts.conditions import read_test
from sentparts.errors import InvalidStep, InvalidText
from sentparts.steps import Fill, First, Lower, Order, Pick, Round, Tally, Trim, Unlike, Where

# Each reader is passed what stands behind the first word. It may take too much for a step: read_step looks again.


def _read_where(words):
    return Where(read_test(words))


def _read_pick(words):
    return Pick(words.split(" "))


def _read_lower(words):
    return Lower(words)


def _read_trim(words):
    return Trim(words)


def _read_round(words):
    return Round(words)


def _read_fill(words):
    column, _, cell = words.partition(" ")
    return Fill(column, read_told(cell))


def _read_unlike(words):
    return Unlike(words.split(" "))


def _read_order(words):
    told = words.split(" ")
    return Order(list(zip(told[::2], told[1::2])))


def _read_first(words):
    return First(read_count(words))


def _read_tally(words):
    told = words.split(" ")
    return Tally(told[:-2], told[-1])


READERS = {
    "where": _read_where,
    "pick": _read_pick,
    "lower": _read_lower,
    "trim": _read_trim,
    "round": _read_round,
    "fill": _read_fill,
    "unlike": _read_unlike,
    "order": _read_order,
    "first": _read_first,
    "tally": _read_tally,
}


def read_step(line, at):
    """The step with this text, which is the line with the number at."""
    verb, _, words = line.partition(" ")
    if verb not in READERS:
        raise InvalidText(at)
    reader = READERS[verb]
    try:
        step = reader(words)
    except (InvalidStep, InvalidText):
        raise InvalidText(at) from None
    # Readers take leading zeros, and leave words over at the end.
    if step.text != line:
        raise InvalidText(at)
    return step

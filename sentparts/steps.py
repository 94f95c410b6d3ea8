"""Steps, each of which makes a table of a table, at a store."""

from sentparts.cells import are_names, cell_text, count_text, is_count, is_name, is_sequence, is_told, sort_of
from sentparts.conditions import Lacks, Test
from sentparts.errors import InvalidStep

WAYS_OF_ORDER = ("up", "down")


class Step:
    """What all steps have in common; each one is of one of the classes below.

    Beside its arguments and its text each one has the names of the columns that it tells (told),
    and pairs of a name and the sort that this column must have for it (needs). Each class has its
    own == and str, as the document lists them for each.
    """

    def columns_behind(self, columns):
        """The columns of what it makes of a table with these columns."""
        return columns

    def rows_behind(self, rows, columns, ways):
        """The rows of what it makes, at a store, of a table with these rows and columns."""
        raise NotImplementedError("each class of steps has its own")

    def __eq__(self, other):
        return isinstance(other, Step) and self.text == other.text

    def __str__(self):
        return str(self.text)


class Where(Step):
    """The rows of which a test is true."""

    def __init__(self, test):
        if not isinstance(test, Test):
            raise InvalidStep("test")
        self.test = test
        self.told = test.columns
        comparisons = [atom for atom in test.atoms if not isinstance(atom, Lacks)]
        self.needs = tuple([(atom.column, sort_of(atom.cell)) for atom in comparisons])
        self.text = f"where {test.text}"

    def rows_behind(self, rows, columns, ways):
        """The rows of which the test is true."""
        names = [column[0] for column in columns]
        return [row for row in rows if self.test.truth(dict(zip(names, row)), ways) is True]

    def __eq__(self, other):
        return isinstance(other, Where) and self.text == other.text

    def __str__(self):
        return str(self.text)


class Pick(Step):
    """These columns alone, in this order."""

    def __init__(self, columns):
        if not are_names(columns):
            raise InvalidStep("columns")
        self.columns = tuple(columns)
        self.told = self.columns
        self.needs = ()
        self.text = f"pick {_names_text(columns)}"

    def columns_behind(self, columns):
        """These columns alone."""
        return _picked(columns, _places_of(columns, self.columns))

    def rows_behind(self, rows, columns, ways):
        """The cells of these columns alone."""
        places = _places_of(columns, self.columns)
        return [_picked(row, places) for row in rows]

    def __eq__(self, other):
        return isinstance(other, Pick) and self.text == other.text

    def __str__(self):
        return str(self.text)


class Lower(Step):
    """The texts of a column in lower case."""

    def __init__(self, column):
        if not is_name(column):
            raise InvalidStep("column")
        self.column = column
        self.told = (column,)
        self.needs = ((column, "text"),)
        self.text = f"lower {column}"

    def rows_behind(self, rows, columns, ways):
        """The rows with the texts of the column in lower case."""
        place = _place_of(columns, self.column)
        cells = [None if row[place] is None else row[place].lower() for row in rows]
        return _replaced(rows, place, cells)

    def __eq__(self, other):
        return isinstance(other, Lower) and self.text == other.text

    def __str__(self):
        return str(self.text)


class Trim(Step):
    """The texts of a column without their blanks at the end."""

    def __init__(self, column):
        if not is_name(column):
            raise InvalidStep("column")
        self.column = column
        self.told = (column,)
        self.needs = ((column, "text"),)
        self.text = f"trim {column}"

    def rows_behind(self, rows, columns, ways):
        """The rows with the texts of the column without their blanks at the end."""
        place = _place_of(columns, self.column)
        cells = [None if row[place] is None else row[place].rstrip(" ") for row in rows]
        return _replaced(rows, place, cells)

    def __eq__(self, other):
        return isinstance(other, Trim) and self.text == other.text

    def __str__(self):
        return str(self.text)


class Round(Step):
    """The numbers of a column rounded."""

    def __init__(self, column):
        if not is_name(column):
            raise InvalidStep("column")
        self.column = column
        self.told = (column,)
        self.needs = ((column, "number"),)
        self.text = f"round {column}"

    def rows_behind(self, rows, columns, ways):
        """The rows with the numbers of the column rounded as the store does."""
        place = _place_of(columns, self.column)
        cells = [None if row[place] is None else ways.rounded(row[place]) for row in rows]
        return _replaced(rows, place, cells)

    def __eq__(self, other):
        return isinstance(other, Round) and self.text == other.text

    def __str__(self):
        return str(self.text)


class Fill(Step):
    """A told cell in the place of those of a column that lack."""

    def __init__(self, column, cell):
        if not is_name(column):
            raise InvalidStep("column")
        if not is_told(cell):
            raise InvalidStep("cell")
        self.column = column
        self.cell = cell
        self.told = (column,)
        self.needs = ((column, sort_of(cell)),)
        self.text = f"fill {column} {cell_text(cell)}"

    def rows_behind(self, rows, columns, ways):
        """The rows with the told cell in the place of those that lack at the store."""
        place = _place_of(columns, self.column)
        cells = [self.cell if ways.seen(row[place]) is None else row[place] for row in rows]
        return _replaced(rows, place, cells)

    def __eq__(self, other):
        return isinstance(other, Fill) and self.text == other.text

    def __str__(self):
        return str(self.text)


class Unlike(Step):
    """Of rows that are alike in these columns the first one alone."""

    def __init__(self, columns):
        if not are_names(columns):
            raise InvalidStep("columns")
        self.columns = tuple(columns)
        self.told = self.columns
        self.needs = ()
        self.text = f"unlike {_names_text(columns)}"

    def rows_behind(self, rows, columns, ways):
        """Of rows that are alike the first one alone."""
        return [row for row, _ in _firsts(rows, _places_of(columns, self.columns), ways)]

    def __eq__(self, other):
        return isinstance(other, Unlike) and self.text == other.text

    def __str__(self):
        return str(self.text)


class Order(Step):
    """The rows ordered by columns, each one up or down."""

    def __init__(self, by):
        if not _are_orders(by):
            raise InvalidStep("by")
        self.by = tuple(by)
        self.told = tuple([name for name, _ in by])
        self.needs = ()
        self.text = " ".join(["order", *[f"{name} {way}" for name, way in by]])

    def rows_behind(self, rows, columns, ways):
        """The rows ordered."""
        # What counts least is ordered first, as later orders keep what they do not part.
        for name, way in self.by[::-1]:
            rows = _ordered(rows, _place_of(columns, name), way, ways)
        return rows

    def __eq__(self, other):
        return isinstance(other, Order) and self.text == other.text

    def __str__(self):
        return str(self.text)


class First(Step):
    """The first rows, so many."""

    def __init__(self, count):
        if not is_count(count):
            raise InvalidStep("count")
        self.count = count
        self.told = ()
        self.needs = ()
        self.text = f"first {count_text(count)}"

    def rows_behind(self, rows, columns, ways):
        """The first rows, all if there are fewer."""
        return rows[:self.count]

    def __eq__(self, other):
        return isinstance(other, First) and self.text == other.text

    def __str__(self):
        return str(self.text)


class Tally(Step):
    """How many rows are alike in these columns, under a new column."""

    def __init__(self, columns, name):
        if not are_names(columns):
            raise InvalidStep("columns")
        if not is_name(name):
            raise InvalidStep("name")
        self.columns = tuple(columns)
        self.name = name
        self.told = self.columns
        self.needs = ()
        self.text = f"tally {_names_text(columns)} as {name}"

    def columns_behind(self, columns):
        """These columns and the new one."""
        return _picked(columns, _places_of(columns, self.columns)) + ((self.name, "number"),)

    def rows_behind(self, rows, columns, ways):
        """The cells of the first one of the rows that are alike, and how many there are."""
        places = _places_of(columns, self.columns)
        return [_picked(row, places) + (count,) for row, count in _firsts(rows, places, ways)]

    def __eq__(self, other):
        return isinstance(other, Tally) and self.text == other.text

    def __str__(self):
        return str(self.text)


def _names_text(names):
    """The text of names."""
    return " ".join(names)


def _is_order(value):
    """Whether a value is a pair of something and a way of order."""
    return isinstance(value, tuple) and len(value) == 2 and value[1] in WAYS_OF_ORDER


def _are_orders(value):
    """Whether a value is a sequence of at least one pair of a name and a way of order, names all different."""
    if not is_sequence(value) or not all([_is_order(pair) for pair in value]):
        return False
    return are_names([pair[0] for pair in value])


def _place_of(columns, name):
    """The place of a column."""
    return [column[0] for column in columns].index(name)


def _places_of(columns, names):
    """The places of columns."""
    return [_place_of(columns, name) for name in names]


def _picked(row, places):
    """What stands at these places of a row, or of columns."""
    return tuple([row[place] for place in places])


def _replaced(rows, place, cells):
    """The rows with these cells, one for each, at this place."""
    return [row[:place] + (cell,) + row[place + 1:] for row, cell in zip(rows, cells)]


def _firsts(rows, places, ways):
    """Pairs, in order: a row to which none ahead is alike at these places, and how many are, itself too."""
    first_rows = {}
    counts = {}
    for row in rows:
        seen = tuple([ways.seen(row[place]) for place in places])
        if seen not in first_rows:
            first_rows[seen] = row
        counts[seen] = counts.get(seen, 0) + 1
    return [(row, counts[seen]) for seen, row in first_rows.items()]


def _ordered(rows, place, way, ways):
    """The rows ordered by their cells at one place, up or down; those that are alike stay in their order."""
    if way == "up":
        return sorted(rows, key=lambda row: rank(row[place], ways))
    # Python keeps the order of what is equal in this direction, too.
    return sorted(rows, key=lambda row: rank(row[place], ways), reverse=True)


def rank(cell, ways):
    """What is less for one cell than for another one if the store has it ahead."""
    seen = ways.seen(cell)
    if seen is None:
        return (2, 0) if ways.last else (0, 0)
    return (1, seen)

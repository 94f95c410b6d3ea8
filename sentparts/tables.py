"""Tables and their texts."""

from sentparts.cells import are_columns, cell_text, is_cell, is_sequence, read_cell
from sentparts.errors import InvalidTable, InvalidText, Mismatch, NoColumn, NoRow


class Table:
    """Rows of cells under columns."""

    def __init__(self, columns, rows=()):
        word = _first_wrong(columns, rows)
        if word is not None:
            raise InvalidTable(word)
        self.columns = tuple(columns)
        self.rows = tuple([tuple(row) for row in rows])

    @classmethod
    def read(cls, text):
        """The table with this text."""
        lines = text.split("\n")
        columns = _read_columns(lines[0])
        rows = [_read_row(line, columns, at) for at, line in enumerate(lines[1:], start=1)]
        return cls(columns, rows)

    def under(self, name):
        """The cells of a column."""
        names = [column[0] for column in self.columns]
        if name not in names:
            raise NoColumn(name)
        place = names.index(name)
        return tuple([row[place] for row in self.rows])

    def __len__(self):
        return len(self.rows)

    def __getitem__(self, at):
        # Python would count numbers below 0 from the end, and here they are no rows.
        if not 0 <= at < len(self.rows):
            raise NoRow(at)
        return self.rows[at]

    def __iter__(self):
        raise TypeError("a table is not iterable")

    def __add__(self, other):
        if not isinstance(other, Table):
            return NotImplemented
        if self.columns != other.columns:
            raise Mismatch()
        return Table(self.columns, self.rows + other.rows)

    def __eq__(self, other):
        return isinstance(other, Table) and self.columns == other.columns and self.rows == other.rows

    def __str__(self):
        return "\n".join([_columns_text(self.columns), *[_row_text(row) for row in self.rows]])


def _first_wrong(columns, rows):
    """The word for what is wrong about columns and rows, None if nothing is."""
    if not are_columns(columns):
        return "columns"
    if not is_sequence(rows):
        return "rows"
    if not all([is_sequence(row) and len(row) == len(columns) for row in rows]):
        return "row"
    if not all([_are_cells(row, columns) for row in rows]):
        return "cell"
    return None


def _are_cells(row, columns):
    """Whether the things in a row are cells of their columns."""
    return all([is_cell(cell, column[1]) for cell, column in zip(row, columns)])


def _columns_text(columns):
    """The line of the columns."""
    return ", ".join([f"{name} {sort}" for name, sort in columns])


def _row_text(row):
    """The line of a row."""
    return ", ".join([cell_text(cell) for cell in row])


def _read_columns(line):
    """The columns of which this is the line."""
    columns = [tuple(words.split(" ")) for words in line.split(", ")]
    if not are_columns(columns):
        raise InvalidText(0)
    return columns


def _read_row(line, columns, at):
    """The row with this line, which has the number at."""
    words = line.split(", ")
    if len(words) != len(columns):
        raise InvalidText(at)
    return [read_cell(word, column[1], at) for word, column in zip(words, columns)]

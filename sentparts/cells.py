"""What names, texts, numbers, cells and columns are, and how cells are written."""

from sentparts.errors import InvalidText

LOWER = "abcdefghijklmnopqrstuvwxyz"
LETTERS = "abcdefghijklmnopqrstuvwxyzABCDEFGHIJKLMNOPQRSTUVWXYZ"
DIGITS = "0123456789"
BARRED = ("is", "and", "or", "not", "as", "up", "down")
LONGEST_NAME = 4
LONGEST_TEXT = 10
LARGEST = 1000000
MOST_DIGITS = 7


def is_sequence(value):
    """Whether a value is a list or a tuple."""
    return isinstance(value, (list, tuple))


def is_name(value):
    """Whether a value is a name."""
    if not isinstance(value, str) or not 1 <= len(value) <= LONGEST_NAME:
        return False
    return value not in BARRED and all([sign in LOWER for sign in value])


def is_text(value):
    """Whether a value is a text."""
    if not isinstance(value, str) or len(value) > LONGEST_TEXT:
        return False
    return all([sign in LETTERS for sign in value.rstrip(" ")])


def is_number(value):
    """Whether a value is a number."""
    if not isinstance(value, int) or isinstance(value, bool):
        return False
    return -LARGEST <= value <= LARGEST


def is_told(value):
    """Whether a value is a text or a number, which can be told in a test or a step."""
    return is_text(value) or is_number(value)


def is_count(value):
    """Whether a value is an integer of at least 1."""
    return isinstance(value, int) and not isinstance(value, bool) and value >= 1


def are_names(value):
    """Whether a value is a sequence of at least one name, all different."""
    if not is_sequence(value) or len(value) == 0:
        return False
    if not all([is_name(name) for name in value]):
        return False
    return len(set(value)) == len(value)


def is_sort(value):
    """Whether a value is the sort of a column."""
    return isinstance(value, str) and value in ("text", "number")


def sort_of(cell):
    """The sort of the columns for which a text or a number can be told."""
    return "text" if isinstance(cell, str) else "number"


def is_cell(value, sort):
    """Whether a value is a cell of a column of this sort."""
    if value is None:
        return True
    return is_text(value) if sort == "text" else is_number(value)


def is_column(value):
    """Whether a value is a pair of a name and a sort."""
    if not isinstance(value, tuple) or len(value) != 2:
        return False
    return is_name(value[0]) and is_sort(value[1])


def are_columns(value):
    """Whether a value is a sequence of columns."""
    if not is_sequence(value) or len(value) == 0:
        return False
    if not all([is_column(column) for column in value]):
        return False
    names = [column[0] for column in value]
    return len(set(names)) == len(names)


def cell_text(cell):
    """The text of a cell."""
    if cell is None:
        return "-"
    if isinstance(cell, str):
        return f'"{cell}"'
    return str(cell)


def is_quoted(word):
    """Whether a word is the text of a text."""
    if len(word) < 2 or not word.startswith('"') or not word.endswith('"'):
        return False
    return is_text(word[1:-1])


def is_decimal(word):
    """Whether a word is the text of a number."""
    digits = word.removeprefix("-")
    # Python does not read numbers of thousands of digits, so the length comes first.
    if not 1 <= len(digits) <= MOST_DIGITS or not all([sign in DIGITS for sign in digits]):
        return False
    # Leading zeros and -0 are not what Python writes for the number.
    return is_number(int(word)) and str(int(word)) == word


def read_cell(word, sort, at):
    """The cell of this sort with this text, in the line with the number at."""
    if word == "-":
        return None
    if sort == "text" and is_quoted(word):
        return word[1:-1]
    if sort == "number" and is_decimal(word):
        return int(word)
    raise InvalidText(at)


def read_told(word):
    """The text or number with this text; None for the text of a cell that is not there."""
    return read_cell(word, "text" if word.startswith('"') else "number", 0)


def count_text(count):
    """The decimal digits of an integer of at least 1."""
    digits = []
    # Digit by digit, as Python does not write numbers of thousands of digits.
    while count > 0:
        count, digit = divmod(count, 10)
        digits.append(str(digit))
    return "".join(digits[::-1])


def read_count(word):
    """The integer with these decimal digits."""
    if not all([sign in DIGITS for sign in word]):
        raise InvalidText(0)
    count = 0
    for sign in word:
        count = count * 10 + int(sign)
    return count

"""What names, texts, numbers, cells and columns are, how cells are written, and which kinds of them there are."""

from sentparts.errors import InvalidText

LOWER = "abcdefghijklmnopqrstuvwxyz"
LETTERS = "abcdefghijklmnopqrstuvwxyzABCDEFGHIJKLMNOPQRSTUVWXYZ"
DIGITS = "0123456789"
BARRED = ("is", "and", "or", "not", "as", "up", "down")
LONGEST_NAME = 4
LONGEST_TEXT = 10
LARGEST = 1000000
MOST_DIGITS = 7

# Numbers farther from 0 and from all told ones go like one that is as near, as roundings come again every 20.
NEAR = 64
# Numbers that are farther apart stay apart, however they are rounded.
APART = 24
# It stands behind the letters of a word, and ahead of all letters in their order, as the end of a word does.
END = "."


def is_sequence(value):
    """Whether a value is a list or a tuple."""
    return isinstance(value, (list, tuple))


def is_name(value):
    """Whether a value is a name."""
    if not isinstance(value, str) or not 1 <= len(value) <= LONGEST_NAME:
        return False
    return value not in BARRED and all([sign in LOWER for sign in value])


def is_text(value):
    """Whether a value is a text."""
    if not isinstance(value, str) or len(value) > LONGEST_TEXT:
        return False
    return all([sign in LETTERS for sign in value.rstrip(" ")])


def is_number(value):
    """Whether a value is a number."""
    if not isinstance(value, int) or isinstance(value, bool):
        return False
    return -LARGEST <= value <= LARGEST


def is_told(value):
    """Whether a value is a text or a number, which can be told in a test or a step."""
    return is_text(value) or is_number(value)


def is_count(value):
    """Whether a value is an integer of at least 1."""
    return isinstance(value, int) and not isinstance(value, bool) and value >= 1


def are_names(value):
    """Whether a value is a sequence of at least one name, all different."""
    if not is_sequence(value) or len(value) == 0:
        return False
    if not all([is_name(name) for name in value]):
        return False
    return len(set(value)) == len(value)


def is_sort(value):
    """Whether a value is the sort of a column."""
    return isinstance(value, str) and value in ("text", "number")


def sort_of(cell):
    """The sort of the columns for which a text or a number can be told."""
    return "text" if isinstance(cell, str) else "number"


def is_cell(value, sort):
    """Whether a value is a cell of a column of this sort."""
    if value is None:
        return True
    return is_text(value) if sort == "text" else is_number(value)


def is_column(value):
    """Whether a value is a pair of a name and a sort."""
    if not isinstance(value, tuple) or len(value) != 2:
        return False
    return is_name(value[0]) and is_sort(value[1])


def are_columns(value):
    """Whether a value is a sequence of columns."""
    if not is_sequence(value) or len(value) == 0:
        return False
    if not all([is_column(column) for column in value]):
        return False
    names = [column[0] for column in value]
    return len(set(names)) == len(names)


def cell_text(cell):
    """The text of a cell."""
    if cell is None:
        return "-"
    if isinstance(cell, str):
        return f'"{cell}"'
    return str(cell)


def is_quoted(word):
    """Whether a word is the text of a text."""
    if len(word) < 2 or not word.startswith('"') or not word.endswith('"'):
        return False
    return is_text(word[1:-1])


def is_decimal(word):
    """Whether a word is the text of a number."""
    digits = word.removeprefix("-")
    # Python does not read numbers of thousands of digits, so the length comes first.
    if not 1 <= len(digits) <= MOST_DIGITS or not all([sign in DIGITS for sign in digits]):
        return False
    # Leading zeros and -0 are not what Python writes for the number.
    return is_number(int(word)) and str(int(word)) == word


def read_cell(word, sort, at):
    """The cell of this sort with this text, in the line with the number at."""
    if word == "-":
        return None
    if sort == "text" and is_quoted(word):
        return word[1:-1]
    if sort == "number" and is_decimal(word):
        return int(word)
    raise InvalidText(at)


def read_told(word):
    """The text or number with this text; None for the text of a cell that is not there."""
    return read_cell(word, "text" if word.startswith('"') else "number", 0)


def count_text(count):
    """The decimal digits of an integer of at least 1."""
    digits = []
    # Digit by digit, as Python does not write numbers of thousands of digits.
    while count > 0:
        count, digit = divmod(count, 10)
        digits.append(str(digit))
    return "".join(digits[::-1])


def read_count(word):
    """The integer with these decimal digits."""
    if not all([sign in DIGITS for sign in word]):
        raise InvalidText(0)
    count = 0
    for sign in word:
        count = count * 10 + int(sign)
    return count


def compared(one, other):
    """-1 if one thing is less than the other one, 0 if they are the same, else 1."""
    return (one > other) - (one < other)


def combined(choices):
    """All rows that have one of the first choices, then one of the next ones, and so on."""
    rows = [()]
    for each in choices:
        rows = [(*row, choice) for row in rows for choice in each]
    return rows


def kinds_of(sort, told):
    """Cells of a sort, at least one of each kind that there is beside these told ones; numbers ascend."""
    if sort == "number":
        return [None, *_numbers(told)]
    return [None, *_texts_of(_words_in(Words(told).word_pairs()), told)]


def pairs_of_kinds(sort, told):
    """Pairs of cells of a sort, at least one of each kind beside these told ones; numbers are near one another."""
    if sort == "number":
        cells = _numbers(told)
        pairs = [(one, other) for at, one in enumerate(cells) for other in cells[max(0, at - APART):at + APART + 1]]
    else:
        words = Words(told).word_pairs()
        cells = _texts_of(_words_in(words), told)
        pairs = []
        for one, other in words:
            pairs.extend(combined([_texts_of([one], told), _texts_of([other], told)]))
    return [(None, None), *[(None, cell) for cell in cells], *[(cell, None) for cell in cells], *pairs]


def _words_in(pairs):
    """The words that stand in pairs, each one once."""
    return list({word: True for pair in pairs for word in pair})


def _numbers(told):
    """The ascending numbers that are near to 0 or to a told one."""
    near = sorted({middle + by for middle in [0, *told] for by in range(-NEAR, NEAR + 1)})
    return [number for number in near if is_number(number)]


def _texts_of(words, told):
    """The texts of words: without blanks, with as many as are told, with one more, and with two more."""
    most = max([0, *[len(text) - len(text.rstrip(" ")) for text in told]])
    texts = [word.rstrip(END) + " " * many for word in words for many in range(most + 3)]
    return [text for text in texts if is_text(text)]


class Words:
    """The words of told texts, beside which other words, and pairs of them, are compared letter by letter.

    A word is compared with a told one as both stand, lowered with it as it stands, and both lowered.
    Of words, and of pairs of words, for which all of this goes alike, one is enough. END stands behind all of them.
    """

    def __init__(self, told):
        # The empty word is one of them, as it can lack.
        self.told = sorted({text.rstrip(" ") + END for text in [*told, ""]})
        self.looks = {}
        self.tails = {}

    def look(self, start):
        """What decides how words that begin so can go on, and how they compare in the end."""
        if start not in self.looks:
            low = start.lower()
            settled = []
            for told in self.told:
                settled.extend([_settled(start, told), _settled(low, told), _settled(low, told.lower())])
            # Where all is settled it does not matter any more at which letters of the told words one is.
            length = len(start) if 0 in settled else -1
            self.looks[start] = (start.endswith(END), start == low, length, *settled)
        return self.looks[start]

    def pair_look(self, one, other):
        """What decides how two words that begin so can go on, and how they compare in the end."""
        return (self.look(one), self.look(other), compared(one, other), compared(one.lower(), other.lower()))

    def signs_behind(self, one, other):
        """What can stand next in two words that begin so: END, told letters, and two of those between told ones."""
        if one.endswith(END):
            return []
        place = max(self.look(one)[2], self.look(other)[2])
        told = [word[place].lower() for word in self.told if 0 <= place < len(word)]
        letters = []
        room = 2
        for letter in LOWER:
            if letter in told:
                room = 2
                letters.append(letter)
            elif room > 0:
                room -= 1
                letters.append(letter)
        return [END, *letters, *[letter.upper() for letter in letters]]

    def tails_behind(self, start):
        """The tails of words that begin so, one for each look that such a word can have."""
        look = self.look(start)
        if look not in self.tails:
            tails = _reached(
                "",
                lambda tail: self.look(start + tail),
                lambda tail: [tail + sign for sign in self.signs_behind(start + tail, start + tail)],
            )
            self.tails[look] = [tail for tail in tails if self.look(start + tail)[0]]
        return self.tails[look]

    def twins(self):
        """Pairs of beginnings that are the same in lower case, one of each look that such a pair can have."""
        return _reached(
            ("", ""),
            lambda pair: self.pair_look(pair[0], pair[1]),
            lambda pair: [(one, other) for one, other in self.longer(pair) if one.lower() == other.lower()],
        )

    def longer(self, pair):
        """A pair of beginnings with a sign more each."""
        one, other = pair
        signs = self.signs_behind(one, other)
        return [(one + sign, other + other_sign) for sign in signs for other_sign in signs]

    def word_pairs(self):
        """Pairs of words, one of each look that a pair can have."""
        found = {}
        parted = {}
        for twins in self.twins():
            if twins[0].endswith(END):
                found[self.pair_look(twins[0], twins[1])] = twins
            for one, other in self.longer(twins):
                if one.lower() != other.lower():
                    parted.setdefault(self.pair_look(one, other), (one, other))
        for one, other in parted.values():
            for word in [one + tail for tail in self.tails_behind(one)]:
                for other_word in [other + tail for tail in self.tails_behind(other)]:
                    found.setdefault(self.pair_look(word, other_word), (word, other_word))
        return list(found.values())


def _settled(start, word):
    """How words that begin so compare with a word, 0 if it is not settled or if they are the same."""
    return 0 if word.startswith(start) else compared(start, word)


def _reached(first, look, behind):
    """What is reached from a first thing by going on to what is behind each one, one thing for each look."""
    found = {}
    things = [first]
    while len(things) > 0:
        new = []
        for thing in things:
            seen = look(thing)
            if seen not in found:
                found[seen] = thing
                new.extend(behind(thing))
        things = new
    return list(found.values())

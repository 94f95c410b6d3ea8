"""Tests, which are true, false or unknown of a row at a store, and their texts."""

from sentparts.cells import cell_text, is_name, is_sequence, is_told, read_told
from sentparts.errors import InvalidTest, InvalidText, NoColumn

# None of these can be a name, so an atom never begins with one.
MARKS = ("(", ")", "not", "and", "or")


class Test:
    """What all tests have in common; each one is of one of the classes below."""

    def truth(self, cells, ways):
        """The value of the test of these cells at a store: True, False, or None if it is unknown."""
        for name in self.columns:
            if name not in cells:
                raise NoColumn(name)
        return self.worth(cells, ways)

    def worth(self, cells, ways):
        """The value of the test where all of its columns are among the cells."""
        raise NotImplementedError("each class of tests has its own")

    def __and__(self, other):
        if not isinstance(other, Test):
            return NotImplemented
        return And((self, other))

    def __or__(self, other):
        if not isinstance(other, Test):
            return NotImplemented
        return Or((self, other))

    def __invert__(self):
        return Not(self)

    def __eq__(self, other):
        return isinstance(other, Test) and self.text == other.text

    def __str__(self):
        return str(self.text)


class Is(Test):
    """Whether the store sees the same of a cell and a told cell."""

    def __init__(self, column, cell):
        word = _first_wrong(column, cell)
        if word is not None:
            raise InvalidTest(word)
        self.column = column
        self.cell = cell
        self.columns = (column,)
        self.atoms = (self,)
        self.text = f"{column} is {cell_text(cell)}"

    def worth(self, cells, ways):
        """The value of the test where its column is among the cells."""
        own = ways.seen(cells[self.column])
        told = ways.seen(self.cell)
        if own is None or told is None:
            return _worth_if_lacking(ways, own is None and told is None)
        return own == told


class Below(Test):
    """Whether what the store sees of a cell is less than what it sees of a told cell."""

    def __init__(self, column, cell):
        word = _first_wrong(column, cell)
        if word is not None:
            raise InvalidTest(word)
        self.column = column
        self.cell = cell
        self.columns = (column,)
        self.atoms = (self,)
        self.text = f"{column} below {cell_text(cell)}"

    def worth(self, cells, ways):
        """The value of the test where its column is among the cells."""
        own = ways.seen(cells[self.column])
        told = ways.seen(self.cell)
        if own is None or told is None:
            return _worth_if_lacking(ways, False)
        return own < told


class Lacks(Test):
    """Whether a cell lacks at the store."""

    def __init__(self, column):
        if not is_name(column):
            raise InvalidTest("column")
        self.column = column
        self.columns = (column,)
        self.atoms = (self,)
        self.text = f"{column} lacks"

    def worth(self, cells, ways):
        """The value of the test where its column is among the cells."""
        return ways.seen(cells[self.column]) is None


class Not(Test):
    """The other one of true and false, unknown if the test is."""

    def __init__(self, test):
        if not isinstance(test, Test):
            raise InvalidTest("test")
        self.test = test
        self.columns = test.columns
        self.atoms = test.atoms
        self.text = f"not {_part_text(test)}"

    def worth(self, cells, ways):
        """The value of the test where all of its columns are among the cells."""
        value = self.test.worth(cells, ways)
        if value is None:
            return None
        return not value


class And(Test):
    """False if one test is false, else unknown if one is unknown, else true."""

    def __init__(self, tests):
        if not _are_tests(tests):
            raise InvalidTest("tests")
        self.tests = tuple(tests)
        self.columns = _columns_of(tests)
        self.atoms = _atoms_of(tests)
        self.text = " and ".join([_part_text(test) for test in tests])

    def worth(self, cells, ways):
        """The value of the test where all of its columns are among the cells."""
        values = [test.worth(cells, ways) for test in self.tests]
        if False in values:
            return False
        return None if None in values else True


class Or(Test):
    """True if one test is true, else unknown if one is unknown, else false."""

    def __init__(self, tests):
        if not _are_tests(tests):
            raise InvalidTest("tests")
        self.tests = tuple(tests)
        self.columns = _columns_of(tests)
        self.atoms = _atoms_of(tests)
        self.text = " or ".join([_part_text(test) for test in tests])

    def worth(self, cells, ways):
        """The value of the test where all of its columns are among the cells."""
        values = [test.worth(cells, ways) for test in self.tests]
        if True in values:
            return True
        return None if None in values else False


def _first_wrong(column, cell):
    """The word for what is wrong about a column and a told cell, None if nothing is."""
    if not is_name(column):
        return "column"
    if not is_told(cell):
        return "cell"
    return None


def _are_tests(value):
    """Whether a value is a sequence of at least two tests."""
    return is_sequence(value) and len(value) >= 2 and all([isinstance(test, Test) for test in value])


def _worth_if_lacking(ways, is_same):
    """The value of a comparison in which a cell lacks; is_same is the one if such cells are alike."""
    if ways.lacking == "unknown":
        return None
    return ways.lacking == "alike" and is_same


def _columns_of(tests):
    """The ascending names of the columns that are told in tests."""
    return tuple(sorted({name for test in tests for name in test.columns}))


def _atoms_of(tests):
    """The atoms of tests from left to right, each text once."""
    found = {}
    for test in tests:
        for atom in test.atoms:
            if atom.text not in found:
                found[atom.text] = atom
    return tuple(found.values())


def _part_text(test):
    """The text of a test that stands within another one."""
    if isinstance(test, (And, Or)):
        return f"({test.text})"
    return test.text


def read_test(text):
    """The test with this text."""
    try:
        test = _read_items(_items(_words(text)))
    except InvalidTest:
        raise InvalidText(0) from None
    # The reader takes more than the texts of tests (other blanks, needless parentheses, words it does not know).
    if test.text != text:
        raise InvalidText(0)
    return test


def _words(text):
    """The words, parentheses and quoted texts of a test's text, without the blanks between them."""
    words = []
    for at, part in enumerate(text.split('"')):
        # Every other part stands between quotes, where blanks and parentheses part no words.
        if int(at) % 2 == 1:
            words.append(f'"{part}"')
        else:
            spaced = part.replace("(", " ( ").replace(")", " ) ")
            words.extend([word for word in spaced.split(" ") if word != ""])
    return words


def _items(words):
    """Words with atoms in the place of those by which they are told."""
    items = []
    at = 0
    while at < len(words):
        if words[at] in MARKS:
            items.append(words[at])
            at += 1
        elif words[at + 1:at + 2] == ["lacks"]:
            items.append(Lacks(words[at]))
            at += 2
        else:
            items.append(_read_comparison(words[at:at + 3]))
            at += 3
    return items


def _read_comparison(words):
    """The Is or Below that is told by these words."""
    if len(words) != 3:
        raise InvalidText(0)
    column, verb, word = words
    if verb == "below":
        return Below(column, read_told(word))
    return Is(column, read_told(word))


def _read_items(items):
    """The test that is told by marks and atoms."""
    # Each level is what stands within one more pair of parentheses; no recursion, as there may be a thousand.
    levels = [[]]
    for item in items:
        if item == "(":
            levels.append([])
        elif item == ")":
            inner = levels.pop()
            if len(levels) == 0:
                raise InvalidText(0)
            levels[-1].append(_read_level(inner))
        else:
            levels[-1].append(item)
    return _read_level(levels[0])


def _read_level(items):
    """The test that is told by tests and the words between them, without parentheses."""
    tests = []
    nots = 0
    for item in items:
        if item == "not":
            nots += 1
        elif isinstance(item, Test):
            tests.append(_negated(item, nots))
            nots = 0
    if len(tests) == 1:
        return tests[0]
    return Or(tests) if "or" in items else And(tests)


def _negated(test, nots):
    """The test in so many Not."""
    for _ in range(nots):
        test = Not(test)
    return test

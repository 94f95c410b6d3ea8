"""What can be sent in the place of a test, so that no row gets lost and home can look again."""

from sentparts.cells import combined, kinds_of, sort_of
from sentparts.conditions import And, Lacks, Not, Or
from sentparts.deciding import cells_told, cuts, marks_of
from sentparts.errors import Mismatch
from sentparts.plans import Plan
from sentparts.questions import Question
from sentparts.steps import Where


def lost(test, ways, other, beside, columns):
    """None if another test is true at its store of each row of which a test is at its own, else some other row."""
    _check(test, columns)
    _check(other, columns)
    for row in _rows_apart([(test.atoms, ways), (other.atoms, beside)], columns):
        if _is_true(test, row, columns, ways) and not _is_true(other, row, columns, beside):
            return row
    return None


def keeps(test, ways, other, beside, columns):
    """Whether another test is true at its store of each row of which a test is true at its own."""
    return lost(test, ways, other, beside, columns) is None


def cover(test, home, far, columns):
    """The least test at the far store that is true of each row of which a test is true at home."""
    _check(test, columns)
    atoms = [*test.atoms, *[Lacks(name) for name in test.columns]]
    terms = {}
    for row in _rows_apart([(test.atoms, home), (atoms, far)], columns):
        if _is_true(test, row, columns, home):
            term = _term(atoms, _cells_of(row, columns), far)
            terms[term.text] = term
    if len(terms) == 0:
        return _never(test)
    return Or(list(terms.values())) if len(terms) > 1 else list(terms.values())[0]


def is_exact(test, home, far, columns):
    """Whether the cover of a test is true at the far store of no other rows than the test at home."""
    return keeps(cover(test, home, far, columns), far, test, home, columns)


def mend(question, far, home):
    """A plan with the answers of a question at home that sends what can be sent, and a cover of the test behind it."""
    at = cuts(question, far, home)[-1]
    sent = question.upto(at)
    if at < len(question) and isinstance(question[at], Where):
        first_look = Where(cover(question[at].test, home, far, sent.ends))
        sent = sent >> Question(sent.ends, [first_look])
    return Plan(sent, question.behind(at))


def _check(test, columns):
    """Mismatch if a test tells a column that is not there, or a cell of another sort."""
    sorts = dict(columns)
    for atom in test.atoms:
        if atom.column not in sorts:
            raise Mismatch()
        if not isinstance(atom, Lacks) and sort_of(atom.cell) != sorts[atom.column]:
            raise Mismatch()


def _rows_apart(asked, columns):
    """Rows, one of each kind that atoms, each time with the ways of their store, tell apart."""
    choices = []
    for name, sort in columns:
        told = [cell for atoms, _ in asked for cell in cells_told(atoms, name)]
        found = {}
        for cell in kinds_of(sort, told):
            marks = tuple([marks_of(atoms, name, cell, ways) for atoms, ways in asked])
            found.setdefault(marks, cell)
        choices.append(list(found.values()))
    return combined(choices)


def _cells_of(row, columns):
    """The cells of a row by the names of their columns."""
    return {column[0]: cell for column, cell in zip(columns, row)}


def _is_true(test, row, columns, ways):
    """Whether a test is true of a row at a store."""
    return test.worth(_cells_of(row, columns), ways) is True


def _term(atoms, cells, ways):
    """The test that is true at a store of the rows for which all these atoms have the values that they have for one."""
    parts = []
    for atom in atoms:
        value = atom.worth(cells, ways)
        # Of what is unknown, the Lacks of its column tells as much.
        if value is not None:
            parts.append(atom if value else Not(atom))
    return And(parts) if len(parts) > 1 else parts[0]


def _never(test):
    """A test made of what a cover may be made of that is true of no row at any store."""
    lacks = Lacks(test.columns[0])
    return And([lacks, Not(lacks)])

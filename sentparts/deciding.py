"""Whether plans give the same answers on all tables, and what that tells of cuts, steps and rules."""

from sentparts.cells import combined, compared, kinds_of, pairs_of_kinds
from sentparts.conditions import Lacks
from sentparts.errors import Mismatch
from sentparts.plans import Plan
from sentparts.questions import is_meeting
from sentparts.steps import Fill, First, Order, Pick, Tally, Where, rank
from sentparts.tables import Table
from sentparts.ways import RULES

# What a row does to another one where rows meet: it is alike to it and ahead of it in the table;
# it comes ahead of it in the answer; it is counted ahead of it, and is not in the answer.
ALIKE = 0
ORDERED = 1
COUNTED = 2


class Track:
    """What a plan does to a cell of a column."""

    def __init__(self, marks, cells, place, outcome):
        # For each Where: the values of its atoms about the column, and the cell as it stands there.
        self.marks = marks
        self.cells = cells
        # What is compared with that of other cells where rows meet.
        self.place = place
        self.outcome = outcome


class Course:
    """The steps of a plan, each one with the ways of its store."""

    def __init__(self, plan, far, home):
        self.whole = plan.whole
        self.moves = [(step, far) for step in plan.sent.steps] + [(step, home) for step in plan.rest.steps]
        self.known = {}

    def track(self, name, sort, cell):
        """What the plan does to a cell of a column."""
        marks = []
        cells = []
        place = 0
        for step, ways in self.moves:
            if isinstance(step, Where):
                marks.append(marks_of(step.test.atoms, name, cell, ways))
                cells.append(cell)
            elif name in step.told and is_meeting(step):
                place = rank(cell, ways)
            elif name in step.told and not isinstance(step, Pick):
                cell = step.rows_behind([(cell,)], [(name, sort)], ways)[0][0]
        return Track(tuple(marks), cells, place, cell)

    def fate(self, names, tracks):
        """Whether a row comes to where rows meet, and whether it has an outcome."""
        comes = False
        at = 0
        for step, ways in self.moves:
            if is_meeting(step):
                comes = True
            if isinstance(step, Where):
                if not self.lets_by(at, step.test, ways, names, tracks):
                    return (comes, False)
                at += 1
        return (True, True)

    def lets_by(self, at, test, ways, names, tracks):
        """Whether the Where with this number keeps a row."""
        marks = (at, *[track.marks[at] for track in tracks])
        if marks not in self.known:
            cells = {name: track.cells[at] for name, track in zip(names, tracks)}
            self.known[marks] = test.worth(cells, ways) is True
        return self.known[marks]


class Field:
    """A column, and cells of it, at least one of each kind, beside the courses of two plans."""

    def __init__(self, column, kinds, courses, is_kept):
        self.name, sort = column
        cells, self.pairs = kinds
        self.is_kept = is_kept
        self.tracks = {}
        self.groups = {}
        for cell in cells:
            self.tracks[cell] = [course.track(self.name, sort, cell) for course in courses]
            self.groups.setdefault(self.group(cell), cell)

    def is_parted(self, cell):
        """Whether the plans make cells of it that are unlike in the answer."""
        one, other = self.tracks[cell]
        return self.is_kept and one.outcome != other.outcome

    def group(self, cell):
        """All that the plans tell of a cell by itself: of a group one cell is enough."""
        one, other = self.tracks[cell]
        return (one.marks, other.marks, self.is_parted(cell))

    def relation(self, one, other):
        """How two cells compare where rows meet, in each plan, and whether they are unlike in the answer."""
        first, second = self.tracks[one]
        other_first, other_second = self.tracks[other]
        is_unlike = self.is_kept and first.outcome != other_first.outcome
        return (compared(first.place, other_first.place), compared(second.place, other_second.place), is_unlike)

    def relations(self, numbers):
        """For two numbers of groups all relations that cells of these can have, with two cells for each one."""
        kinds = {cell: numbers[self.groups[self.group(cell)]] for cell in self.tracks}
        found = {}
        for one, other in self.pairs + self.outermost(kinds):
            found.setdefault((kinds[one], kinds[other]), {}).setdefault(self.relation(one, other), (one, other))
        return found

    def outermost(self, kinds):
        """Pairs of the first and last cells of kinds: of numbers that are far apart nothing else is to be told."""
        firsts = {}
        lasts = {}
        for cell in self.tracks:
            if cell is not None:
                firsts.setdefault(kinds[cell], cell)
                lasts[kinds[cell]] = cell
        ends = [list(firsts.values()), list(lasts.values())]
        return combined(ends) + combined(ends[::-1])


class Meeting:
    """The kinds of rows that two plans tell apart, and how rows of two kinds compare where rows meet."""

    def __init__(self, fields, fates, rank_by):
        numbers = [_numbered(fates, at) for at in range(len(fields))]
        self.rank_by = rank_by
        self.between = [field.relations(numbers[at]) for at, field in enumerate(fields)]
        # For each kind: whether rows of it come there in one plan, and in the other one, and have an outcome.
        self.fates = {}
        for row, (one, other) in fates.items():
            kind = tuple([numbers[at][cell] for at, cell in enumerate(row)])
            self.fates[kind] = (one[0], other[0], one[1])

    def parting_rows(self, how):
        """A row, another one to which it does something in one plan alone, and whether it stands ahead of it.

        None if there are no such rows.
        """
        known = {}
        answered = [kind for kind, fate in self.fates.items() if fate[2]]
        for kind, fate in self.fates.items():
            for other in answered:
                choices = [each.get((kind[at], other[at]), {}) for at, each in enumerate(self.between)]
                look = (fate, *[tuple(choice) for choice in choices])
                if look not in known:
                    known[look] = self.parting_relations(how, fate, choices)
                if known[look] is not None:
                    relations, is_earlier = known[look]
                    pairs = [choice[relation] for choice, relation in zip(choices, relations)]
                    return [[pair[0] for pair in pairs], [pair[1] for pair in pairs], is_earlier]
        return None

    def parting_relations(self, how, fate, choices):
        """Relations, one of each choice, of a row of this fate with another one to which it does something so.

        With whether it stands ahead of it; None if there are none.
        """
        # Where both are in the answer, the order tells all: rows with the same outcome stand for one another.
        if (how == ORDERED and not fate[2]) or (how == COUNTED and fate[2]):
            return None
        for relations in combined(choices):
            if how != ORDERED or any([relation[2] for relation in relations]):
                for is_earlier in (True, False):
                    one = fate[0] and self.does(how, relations, 0, is_earlier)
                    other = fate[1] and self.does(how, relations, 1, is_earlier)
                    if one != other:
                        return (relations, is_earlier)
        return None

    def does(self, how, relations, side, is_earlier):
        """Whether a row that has these relations to another one does this to it, in the plan on this side."""
        ranks = [way * relations[at][side] for at, way in self.rank_by if relations[at][side] != 0]
        if len(ranks) == 0:
            return is_earlier
        return how != ALIKE and ranks[0] < 0


def same(p, q, far, home):
    """Whether two plans give the same answers on all tables."""
    return parting(p, q, far, home) is None


def parting(p, q, far, home):
    """None if two plans are the same, else some table with the fewest rows on which they are not."""
    if p.whole.columns != q.whole.columns or p.whole.ends != q.whole.ends:
        raise Mismatch()
    if [step.text for step in _meeting_steps(p.whole)] != [step.text for step in _meeting_steps(q.whole)]:
        raise Mismatch()
    rows = _parting_rows(Course(p, far, home), Course(q, far, home), _kinds(p.whole, q.whole))
    return None if rows is None else Table(p.whole.columns, rows)


def cuts(question, far, home):
    """The ascending numbers of first steps, so many, that can be sent with the same answers on all tables."""
    kinds = _kinds(question, question)
    unsent = Course(Plan.cut(question, 0), far, home)
    courses = [Course(Plan.cut(question, at), far, home) for at in range(len(question) + 1)]
    return tuple([at for at, sent in enumerate(courses) if _parting_rows(sent, unsent, kinds) is None])


def alike(p, q, ways):
    """Whether two questions give the same answers on all tables at a store."""
    return same(Plan.cut(p, 0), Plan.cut(q, 0), ways, ways)


def needless(question, ways):
    """The ascending numbers of the steps, but for meeting steps, each of which alone can be left out."""
    kinds = _kinds(question, question)
    whole = Course(Plan.cut(question, 0), ways, ways)
    found = []
    for at in [at for at, step in enumerate(question.steps) if not is_meeting(step)]:
        shorter = Plan.cut(question.without(at), 0)
        if shorter.whole.ends == question.ends and _parting_rows(Course(shorter, ways, ways), whole, kinds) is None:
            found.append(at)
    return tuple(found)


def matters(question, home):
    """The names of the rules by which alone a far store can part from home if it does all steps."""
    kinds = _kinds(question, question)
    unsent = Course(Plan.cut(question, 0), home, home)
    sent = Plan.cut(question, len(question))
    found = []
    for name, choices in RULES:
        rules = [{name: choice} for choice in choices]
        courses = [Course(sent, home.but(**rule), home) for rule in rules]
        if any([_parting_rows(course, unsent, kinds) is not None for course in courses]):
            found.append(name)
    return tuple(found)


def marks_of(atoms, name, cell, ways):
    """The values at a store of those atoms that are about a column, of a cell of it."""
    return tuple([atom.worth({name: cell}, ways) for atom in atoms if atom.column == name])


def cells_told(atoms, name):
    """The cells that atoms tell for a column."""
    return [atom.cell for atom in atoms if atom.column == name and not isinstance(atom, Lacks)]


def _meeting_steps(question):
    """The steps of a question in which rows meet."""
    return [step for step in question.steps if is_meeting(step)]


def _kinds(question, other):
    """For each column cells and pairs of cells, at least one of each kind beside what two questions tell."""
    kinds = []
    for name, sort in question.columns:
        told = _told_cells(name, question.steps + other.steps)
        kinds.append((kinds_of(sort, told), pairs_of_kinds(sort, told)))
    return kinds


def _told_cells(name, steps):
    """The cells that steps tell for a column."""
    told = []
    for step in steps:
        if isinstance(step, Where):
            told.extend(cells_told(step.test.atoms, name))
        elif isinstance(step, Fill) and step.column == name:
            told.append(step.cell)
    return told


def _parting_rows(one, other, kinds):
    """The rows of a smallest table on which two plans, told by their courses, part; None if they don't."""
    columns = one.whole.columns
    kept = _kept_names(one.whole)
    fields = [Field(column, kinds[at], [one, other], column[0] in kept) for at, column in enumerate(columns)]
    fates = _fates(fields, one, other)
    for row, (fate, other_fate) in fates.items():
        if fate[1] != other_fate[1]:
            return [row]
        if fate[1] and any([field.is_parted(cell) for field, cell in zip(fields, row)]):
            return [row]
    steps = _meeting_steps(one.whole)
    return None if len(steps) == 0 else _rows_that_meet(steps, Meeting(fields, fates, _rank_by(steps[0], columns)))


def _rows_that_meet(steps, meeting):
    """The fewest rows by whose meeting two plans part that do not part by single rows; None if they don't."""
    for step in steps:
        found = meeting.parting_rows(_how(step))
        if found is not None:
            row, other, is_earlier = found
            rows = [row] * (step.count if isinstance(step, First) else 1)
            return [*rows, other] if is_earlier else [other, *rows]
    return None


def _how(step):
    """What a row does to another one in a meeting step."""
    if isinstance(step, Order):
        return ORDERED
    return COUNTED if isinstance(step, First) else ALIKE


def _rank_by(step, columns):
    """The places of the columns by which rows compare in the first meeting step, each with 1, or -1 for "down"."""
    names = [column[0] for column in columns]
    if isinstance(step, Order):
        return [(names.index(name), 1 if way == "up" else -1) for name, way in step.by]
    return [(names.index(name), 1) for name in step.told]


def _kept_names(question):
    """The names of the columns whose cells are in the answers."""
    for step in question.steps:
        if isinstance(step, Tally):
            return step.columns
    return [column[0] for column in question.ends]


def _fates(fields, one, other):
    """For rows, one of each kind that the courses of two plans tell apart, their fates in both."""
    names = [field.name for field in fields]
    fates = {}
    for row in combined([list(field.groups.values()) for field in fields]):
        tracks = [field.tracks[cell] for field, cell in zip(fields, row)]
        fate = one.fate(names, [track for track, _ in tracks])
        fates[row] = (fate, other.fate(names, [track for _, track in tracks]))
    return fates


def _numbered(fates, at):
    """For each cell that stands at a place of these rows a number; the same one if all rows fare the same with them."""
    found = {}
    for row, fate in fates.items():
        found.setdefault(row[at], []).append(fate)
    numbers = {}
    return {cell: numbers.setdefault(tuple(each), len(numbers)) for cell, each in found.items()}

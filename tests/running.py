"""Random questions and tables, and runs of plans on many tables, with which decisions are compared."""

import time
from itertools import product
from random import Random

from sentparts.conditions import And, Below, Is, Lacks, Not, Or
from sentparts.plans import Plan
from sentparts.questions import Question
from sentparts.steps import Fill, First, Lower, Order, Pick, Round, Tally, Trim, Unlike, Where
from sentparts.tables import Table
from sentparts.ways import Ways
from tests.values import CHOICES

COLUMNS = [("a", "text"), ("n", "number"), ("b", "text"), ("m", "number")]
WORDS = ["x", "X", "xy", "Xy", "a", "A", "b", "Z", "z", "aB", "x ", "", "  ", " ", "xY "]
NUMBERS = [0, 5, -5, 10, 3, 7, 15, 25, -15, 12, 4, 99997, 20]


def read_plan(columns, sent, rest):
    """The plan that sends the question with the first text; the rest is the question with the other one."""
    first = Question.read(columns, sent)
    return Plan(first, Question.read(first.ends, rest))


def told_in(question):
    """For each column of a question the cells that are told for it."""
    told = {name: [] for name, _ in question.columns}
    for step in question.steps:
        if isinstance(step, Fill):
            told[step.column].append(step.cell)
        if isinstance(step, Where):
            for atom in step.test.atoms:
                if not isinstance(atom, Lacks):
                    told[atom.column].append(atom.cell)
    return told


def near_cells(sort, told):
    """Cells of a sort that are near to told ones."""
    if sort == "number":
        return [None, *sorted({middle + by for middle in [0, *told] for by in range(-25, 26)})]
    found = {""}
    for word in {"", "x", *[text.rstrip(" ") for text in told]}:
        found.update([word, word.lower(), word.upper(), word.swapcase(), word[:1], word + "a", word + "Z"])
        found.update([word[:-1] + "b", word[:-1] + "Y", word[:-1] + "w"])
    return [None, *[word + " " * many for word in sorted(found) for many in range(4) if len(word) + many <= 10]]


def some_tables(columns, told, many, most=6):
    """Tables with rows of cells near told ones, among them many with alike rows and cells."""
    maker = Random(str((columns, told)))
    pools = [near_cells(sort, told.get(name, [])) for name, sort in columns]
    few = pools
    for at in range(many):
        if at % 20 == 0:
            few = [maker.sample(pool, min(len(pool), maker.choice([2, 3, 5]))) for pool in pools]
        rows = [[maker.choice(pool) for pool in (few if at % 3 else pools)] for _ in range(maker.randint(1, most))]
        rows.extend(maker.choice(rows) for _ in range(maker.randint(0, most - len(rows))))
        yield Table(columns, rows)


def parts(p, q, far, home, table):
    """Whether two plans give different answers on a table."""
    return p.run(table, far, home) != q.run(table, far, home)


def fewest_rows(p, q, far, home, pools, most):
    """The least number of rows, of all with cells of these pools, on which two plans part; None if up to most don't."""
    rows = list(product(*pools))
    for many in range(1, most + 1):
        for chosen in product(rows, repeat=many):
            if parts(p, q, far, home, Table(p.whole.columns, chosen)):
                return many
    return None


def timed(calls):
    """The results of calls, and how many seconds the longest one took."""
    results, longest = [], 0
    for call in calls:
        start = time.perf_counter()
        results.append(call())
        longest = max(longest, time.perf_counter() - start)
    return results, longest


class Maker:
    """Random columns, ways, tests and questions within what [3] allows."""

    def __init__(self, seed):
        self.random = Random(seed)
        self.columns = self.random.sample(COLUMNS, self.random.choice([1, 1, 2, 2, 2, 3, 4]))
        active = self.random.sample(self.columns, min(len(self.columns), self.random.choice([1, 1, 2, 2])))
        self.active = active
        self.told = {name: self.told_for(sort, 1 if at else 2) for at, (name, sort) in enumerate(active)}
        self.far = Ways(**{name: self.random.choice(choices) for name, choices in CHOICES.items()})
        changed = self.random.sample(list(CHOICES), self.random.choice([1, 1, 2, 7]))
        self.home = self.far.but(**{name: self.random.choice(CHOICES[name]) for name in changed})
        self.meeting = self.some_meeting()
        kept = self.random.sample(self.columns, self.random.randint(1, len(self.columns)))
        is_picked = self.random.random() < 0.4 and not any(isinstance(step, Tally) for step in self.meeting)
        self.pick = [Pick([name for name, _ in kept])] if is_picked else []

    def told_for(self, sort, most):
        """Cells to be told for a column."""
        return self.random.sample(WORDS if sort == "text" else NUMBERS, self.random.randint(1, most))

    def some_meeting(self):
        """Meeting steps, or none."""
        names = [name for name, _ in self.random.sample(self.active, self.random.randint(1, len(self.active)))]
        by = [(name, self.random.choice(["up", "down"])) for name in names]
        first = First(self.random.randint(1, 3))
        choices = [[], [Unlike(names)], [Order(by)], [Order(by), first], [Order(by), first], [first]]
        return self.random.choice([*choices, [Tally(names, "c")]])

    def test(self, depth):
        """A test."""
        kind = self.random.random() if depth else 0
        if kind < 0.5:
            name, _ = self.random.choice(self.active)
            cell = self.random.choice(self.told[name])
            return self.random.choice([Is(name, cell), Is(name, cell), Below(name, cell), Lacks(name)])
        if kind < 0.65:
            return Not(self.test(depth - 1))
        return self.random.choice([And, Or])([self.test(depth - 1) for _ in range(self.random.choice([2, 2, 3]))])

    def step(self):
        """A step that is no meeting step."""
        if self.random.random() < 0.5:
            return Where(self.test(self.random.choice([0, 1, 1, 2])))
        name, sort = self.random.choice(self.active)
        fill = Fill(name, self.random.choice(self.told[name]))
        if sort == "text":
            return self.random.choice([Lower(name), Trim(name), fill])
        return self.random.choice([Round(name), Round(name), fill])

    def question(self):
        """A question with the maker's meeting steps."""
        ahead = [self.step() for _ in range(self.random.choice([0, 0, 1, 1, 2, 3]))]
        behind = [self.step() for _ in range(self.random.choice([0, 0, 1, 1, 2]))]
        if any(isinstance(step, Tally) for step in self.meeting):
            behind = []
        return Question(self.columns, [*ahead, *self.meeting, *behind, *self.pick])

    def plan(self, question):
        """A cut of a question."""
        return Plan.cut(question, self.random.randint(0, len(question)))

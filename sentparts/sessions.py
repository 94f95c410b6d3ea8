"""Sessions: a table that is changed, and questions that are asked of it one behind another."""

from sentparts.errors import Mismatch
from sentparts.plans import Plan
from sentparts.tables import Table


class Trial:
    """A block behind which the table and the deeds of a session are as they were ahead of it."""

    def __init__(self, session):
        self.session = session

    def __enter__(self):
        self.held = self.session.held
        self.earlier = self.session.earlier
        return self.session

    def __exit__(self, kind, value, trace):
        session = self.session
        session.held = self.held
        session.earlier = self.earlier


class Session:
    """A table as the far store has it, the ways of both stores, and how many rows were brought home."""

    def __init__(self, table, far, home):
        self.far = far
        self.home = home
        self.moved = 0
        self.held = table
        # The tables ahead of each deed that can be taken back.
        self.earlier = ()

    @property
    def table(self):
        """The table that is there now."""
        return self.held

    @table.setter
    def table(self, value):
        self.lay(value)

    def lay(self, table):
        """Sets the table, which has the same columns."""
        if table.columns != self.held.columns:
            raise Mismatch()
        self._change(table)

    def put(self, row):
        """Puts a row behind all others."""
        self._change(self.held + Table(self.held.columns, [row]))

    def take(self, at):
        """Takes a row out and returns it."""
        row = self.held[at]
        self._change(Table(self.held.columns, self.held.rows[:at] + self.held.rows[at + 1:]))
        return row

    def _change(self, table):
        """Has another table, which is a deed."""
        self.earlier = self.earlier + (self.held,)
        self.held = table

    def ask(self, question):
        """The answer at home of all rows."""
        return self.split(question, 0)

    def split(self, question, at):
        """The answer if the first steps of a question, so many, are sent."""
        return self.answer(Plan.cut(question, at))

    def answer(self, plan):
        """The answer of a plan."""
        brought = plan.sent.run(self.held, self.far)
        found = plan.rest.run(brought, self.home)
        self.moved += len(brought)
        return found

    def undo(self):
        """Takes back the last deed; whether there was one."""
        if len(self.earlier) == 0:
            return False
        self.held = self.earlier[-1]
        self.earlier = self.earlier[:-1]
        return True

    def trial(self):
        """A new block behind which the table and the deeds are as they were."""
        return Trial(self)

    def within(self, work):
        """What some work returns that is called with the session in such a block."""
        with self.trial() as session:
            return work(session)

    def __len__(self):
        return len(self.earlier)

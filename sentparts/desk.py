"""A desk, which does commands and returns texts."""

from sentparts.cells import is_decimal
from sentparts.deciding import cuts, matters, parting
from sentparts.errors import InvalidCommand
from sentparts.plans import Plan
from sentparts.questions import Question
from sentparts.tables import Table
from sentparts.ways import Ways

# What stands for a newline in commands and results.
BREAK = " ; "
LONGEST_AT = 4


def _keep_home(desk, text):
    _, far, table, question = desk.state
    desk.change((Ways.read(text), far, table, question))
    return "kept"


def _keep_far(desk, text):
    home, _, table, question = desk.state
    desk.change((home, Ways.read(text), table, question))
    return "kept"


def _keep_table(desk, text):
    home, far, _, _ = desk.state
    table = Table.read(text)
    desk.change((home, far, table, Question(table.columns)))
    return str(len(table))


def _keep_question(desk, text):
    home, far, table, _ = desk.state
    question = Question.read(table.columns, text)
    desk.change((home, far, table, question))
    return str(len(question))


def _keep_no_steps(desk):
    return _keep_question(desk, "")


def _answer(desk):
    home, _, table, question = desk.state
    return str(question.run(table, home))


def _tell_cuts(desk):
    home, far, _, question = desk.state
    return " ".join([str(at) for at in cuts(question, far, home)])


def _tell_matters(desk):
    home, _, _, question = desk.state
    names = matters(question, home)
    return "none" if len(names) == 0 else " ".join(names)


def _undo(desk):
    return "undone" if desk.take_back() else "nothing"


def _answer_sent(desk, at):
    home, far, table, question = desk.state
    return str(Plan.cut(question, at).run(table, far, home))


def _tell_parting(desk, at):
    home, far, _, question = desk.state
    found = parting(Plan.cut(question, at), Plan.cut(question, 0), far, home)
    return "never" if found is None else str(found)


WITH_TEXT = {"home": _keep_home, "far": _keep_far, "table": _keep_table, "question": _keep_question}
WITH_NUMBER = {"sent": _answer_sent, "parting": _tell_parting}
ALONE = {
    "question": _keep_no_steps,
    "answer": _answer,
    "cuts": _tell_cuts,
    "matters": _tell_matters,
    "undo": _undo,
}


def _is_number_of_steps(word):
    """Whether a word can tell how many steps are sent."""
    return len(word) <= LONGEST_AT and not word.startswith("-") and is_decimal(word)


class Desk:
    """The ways of both stores, a table, and a question from its columns; and what they were before."""

    def __init__(self):
        columns = [("a", "text")]
        self.state = (Ways(), Ways(), Table(columns), Question(columns))
        # The states ahead of each command that can be taken back.
        self.earlier = ()

    def say(self, command):
        """The text of what comes of a command."""
        if not isinstance(command, str) or "\n" in command:
            raise InvalidCommand()
        word, blank, words = command.partition(" ")
        if word in WITH_TEXT and words != "":
            keep = WITH_TEXT[word]
            return keep(self, words.replace(BREAK, "\n"))
        if word in WITH_NUMBER and _is_number_of_steps(words):
            tell_for = WITH_NUMBER[word]
            return tell_for(self, int(words)).replace("\n", BREAK)
        if word in ALONE and blank == "":
            tell = ALONE[word]
            return tell(self).replace("\n", BREAK)
        raise InvalidCommand()

    def change(self, state):
        """Has another state, which can be taken back."""
        self.earlier = self.earlier + (self.state,)
        self.state = state

    def take_back(self):
        """Has the state ahead of the last change; whether there was one."""
        if len(self.earlier) == 0:
            return False
        self.state = self.earlier[-1]
        self.earlier = self.earlier[:-1]
        return True

    def __len__(self):
        return len(self.earlier)

"""Plans: a question for the far store, and one for the home store with what comes."""


class Plan:
    """What is sent to the far store, and the rest, which the home store does."""

    def __init__(self, sent, rest):
        self.whole = sent >> rest
        self.sent = sent
        self.rest = rest

    @classmethod
    def cut(cls, question, at):
        """The plan that sends the first steps of a question, so many."""
        return cls(question.upto(at), question.behind(at))

    def run(self, table, far, home):
        """The answer to a table of the far store."""
        return self.rest.run(self.sent.run(table, far), home)

    def __len__(self):
        return len(self.sent)

    def __eq__(self, other):
        return isinstance(other, Plan) and self.sent == other.sent and self.rest == other.rest

    def __str__(self):
        return "\n".join([text for text in [self.sent.text, "home", self.rest.text] if text != ""])

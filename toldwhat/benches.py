"""Benches: a text and its right keeper, edit by edit."""

from toldwhat.errors import BadStep
from toldwhat.keepers import keeper
from toldwhat.worlds import message_of, messages, text_behind


class Bench:
    """A text that is edited step by step, and the right keeper of a question about it."""

    def __init__(self, world, question):
        self._steps, self._answers = keeper(world, question)
        self._world = world
        self._letters = question[0]
        self._numbers = {message: number for number, message in enumerate(messages(world, question[0]))}
        # The first text and the first memory are those ahead of all messages.
        self._texts = [()]
        self._memories = [0]
        self._row = []

    def edit(self, edit):
        """Do an edit, and return what the keeper answers then."""
        text = text_behind(self._world, self._letters, self._texts[-1], edit)
        if text is None:
            raise BadStep("no edit that can be done")
        message = message_of(edit)
        memory = self._steps[self._memories[-1]][self._numbers[message]]
        self._texts.append(text)
        self._memories.append(memory)
        self._row.append(message)
        return self._answers[memory]

    def undo(self):
        """Take the last edit back."""
        if len(self._row) == 0:
            raise BadStep("no edit to take back")
        self._texts.pop()
        self._memories.pop()
        self._row.pop()

    @property
    def text(self):
        """The text behind the edits that are done."""
        return self._texts[-1]

    @property
    def memory(self):
        """The state of the keeper."""
        return self._memories[-1]

    @property
    def row(self):
        """The messages of the edits that are done."""
        return tuple(self._row)

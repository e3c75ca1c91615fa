"""The errors of the package, one class for each kind of failure."""


class KeeperError(ValueError):
    """The base class of all errors of the package."""


class BadQuestion(KeeperError):
    """A value is no question: part is the word for what is wrong."""

    def __init__(self, part):
        super().__init__(f"not a question, wrong in: {part}")
        self.part = part


class BadText(KeeperError):
    """A value is no text of the letters there are, or too long for an argument."""


class BadWorld(KeeperError):
    """A value is none of the worlds."""


class BadEdits(KeeperError):
    """A value is no tuple of edits (index None), or the edit at index is wrong."""

    def __init__(self, index):
        super().__init__(f"not edits, wrong at: {index}")
        self.index = index


class BadMessages(KeeperError):
    """A value is no tuple of messages (index None), or the message at index is wrong."""

    def __init__(self, index):
        super().__init__(f"not messages, wrong at: {index}")
        self.index = index


class BadKeeper(KeeperError):
    """A value is no pair of steps and answers (index None), or the state at index is wrong."""

    def __init__(self, index):
        super().__init__(f"not a keeper, wrong at: {index}")
        self.index = index


class BadNumber(KeeperError):
    """A value is no integer within the limits."""


class NoKeeper(KeeperError):
    """A question has no right keeper in the world."""


class Answerable(KeeperError):
    """A question has a right keeper, where one without was asked for."""


class NotAlike(KeeperError):
    """Two questions do not have the same letters."""


class BadStep(KeeperError):
    """A bench is asked for a step that cannot be done."""


class TooMany(KeeperError):
    """More would come than the most that is let."""

    def __init__(self, most):
        super().__init__(f"more than {most}")
        self.most = most


class BadAsk(KeeperError):
    """A value is no ask over the letters there are."""


class BadLine(KeeperError):
    """A text tells nothing: the word of that number, in the line of that number, is wrong."""

    def __init__(self, line, word):
        super().__init__(f"wrong in line {line}, word {word}")
        self.line = line
        self.word = word


class BadString(KeeperError):
    """A value is no string."""

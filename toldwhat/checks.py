"""What the other files check their arguments by."""

from toldwhat.errors import BadNumber, BadQuestion, BadText

MOST_LETTERS = 3
MOST_STATES = 40
MOST_ANSWER = 3
MOST_TEXT = 60


def is_number(value, low, high):
    """Whether a value is an integer from low to high."""
    # Python counts True and False among the integers, the document does not.
    return isinstance(value, int) and not isinstance(value, bool) and low <= value <= high


def are_numbers(value, many, high):
    """Whether a value is a tuple of just so many integers from 0 to high."""
    if not isinstance(value, tuple) or len(value) != many:
        return False
    return all([is_number(number, 0, high) for number in value])


def are_steps(value, letters):
    """Whether a value is the steps of a question of so many letters."""
    if not isinstance(value, tuple) or not 1 <= len(value) <= MOST_STATES:
        return False
    return all([are_numbers(row, letters, len(value) - 1) for row in value])


def check_letters(letters):
    """Raise BadNumber for a value that is no number of letters."""
    if not is_number(letters, 1, MOST_LETTERS):
        raise BadNumber("not a number of letters")


def check_question(question):
    """Raise BadQuestion for a value that is no question."""
    if not isinstance(question, tuple) or len(question) != 3:
        raise BadQuestion("question")
    letters, steps, answers = question
    if not is_number(letters, 1, MOST_LETTERS):
        raise BadQuestion("letters")
    if not are_steps(steps, letters):
        raise BadQuestion("steps")
    if not are_numbers(answers, len(steps), MOST_ANSWER):
        raise BadQuestion("answers")


def is_text(value, letters):
    """Whether a value is a tuple of any number of letters."""
    return isinstance(value, tuple) and are_numbers(value, len(value), letters - 1)


def check_text(text, letters):
    """Raise BadText for a value that is no text of so many letters, or too long a one."""
    if not is_text(text, letters) or len(text) > MOST_TEXT:
        raise BadText("not a tuple of at most 60 letters")

"""Words as text: letters, plain figures, and what spaces part."""

from toldwhat.errors import BadString

LETTERS = ("a", "b", "c")
FIGURES = ("0", "1", "2", "3", "4", "5", "6", "7", "8", "9")


def check_string(text):
    """Raise BadString for a value that is no string."""
    if not isinstance(text, str):
        raise BadString("not a string")


def words_of(text):
    """The words of a text, which are parted by any number of spaces."""
    # A tab or a newline is no space, but part of a word.
    return [word for word in text.split(" ") if word != ""]


def is_plain_number(word, most):
    """Whether a word is a number of one to so many plain figures, without a needless 0 ahead."""
    if not 1 <= len(word) <= most or (len(word) > 1 and word[0] == "0"):
        return False
    return all([sign in FIGURES for sign in word])

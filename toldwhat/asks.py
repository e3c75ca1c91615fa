"""Asks: what can be said of a text, whether it is true, and the question that asks for it."""

from toldwhat.checks import MOST_STATES, are_numbers, check_letters, check_text, is_number, is_text
from toldwhat.errors import BadAsk
from toldwhat.memories import numbered
from toldwhat.questions import least_of

MOST_WITHIN = 6
MOST_PLAIN = 16
MOST_WORD = 6
MOST_TIMES = 6
MOST_MODULUS = 8
MOST_ROWS = 2000

# The plain asks that tell a word, and those that join two asks.
WORDED = ("begins", "ends", "holds", "repeats")
JOINING = ("and", "or")


def is_true(letters, ask, text):
    """Whether an ask is true of a text."""
    check_letters(letters)
    check_ask(letters, ask)
    check_text(text, letters)
    truths = {}
    for plain in plains_of(ask):
        known = 0
        for letter in text:
            known = known_behind(plain, known, letter)
        truths[plain] = is_met(plain, known)
    return is_joined(ask, truths)


def question_of(letters, ask):
    """The question with the fewest states whose answer is 1 for the texts of which an ask is true, 0 for others."""
    check_letters(letters)
    check_ask(letters, ask)
    plains = plains_of(ask)
    moves = []
    for letter in range(letters):
        moves.append(tuple([(place, table_behind(plain, letter)) for place, plain in enumerate(plains)]))
    steps, rows = numbered((0,) * len(plains), moves, MOST_ROWS)
    answers = []
    for row in rows:
        truths = {plain: is_met(plain, known) for plain, known in zip(plains, row)}
        answers.append(int(is_joined(ask, truths)))
    return least_of((letters, steps, tuple(answers)), MOST_STATES)


def check_ask(letters, ask):
    """Raise BadAsk for a value that is no ask."""
    if not is_ask(letters, ask, 1) or len(plains_of(ask)) > MOST_PLAIN:
        raise BadAsk("not an ask")


def is_ask(letters, value, depth):
    """Whether a value is an ask with any number of plain ones, itself being so deep within others."""
    if depth > MOST_WITHIN or not isinstance(value, tuple) or len(value) == 0:
        return False
    if value[0] == "not":
        return len(value) == 2 and is_ask(letters, value[1], depth + 1)
    if value[0] in JOINING:
        return len(value) == 3 and all([is_ask(letters, part, depth + 1) for part in value[1:]])
    return is_plain(letters, value)


def is_plain(letters, value):
    """Whether a tuple that tells anything is a plain ask."""
    word = value[0]
    if word in WORDED:
        return len(value) == 2 and is_text(value[1], letters) and 1 <= len(value[1]) <= MOST_WORD
    if word == "least":
        return len(value) == 3 and is_number(value[1], 1, MOST_TIMES) and is_number(value[2], 0, letters - 1)
    if word == "sum":
        return len(value) == 4 and is_weighing(letters, value)
    return word == "void" and len(value) == 1


def is_weighing(letters, value):
    """Whether the three other parts of a sum are weights, a modulus and a rest."""
    _, weights, modulus, rest = value
    if not is_number(modulus, 2, MOST_MODULUS):
        return False
    return are_numbers(weights, letters, modulus - 1) and is_number(rest, 0, modulus - 1)


def plains_of(ask):
    """The plain asks in an ask, each as often as it stands there."""
    if ask[0] == "not":
        return plains_of(ask[1])
    if ask[0] in JOINING:
        return plains_of(ask[1]) + plains_of(ask[2])
    return [ask]


def is_joined(ask, truths):
    """Whether an ask is true, where the truth of its plain ones is known."""
    if ask[0] == "not":
        return not is_joined(ask[1], truths)
    if ask[0] == "and":
        return is_joined(ask[1], truths) and is_joined(ask[2], truths)
    if ask[0] == "or":
        return is_joined(ask[1], truths) or is_joined(ask[2], truths)
    return truths[ask]


def table_behind(plain, letter):
    """For each number that may be known of a text, what is known once a letter is put behind it."""
    return tuple([known_behind(plain, known, letter) for known in range(most_known(plain) + 1)])


def most_known(plain):
    """The greatest number that is known of any text to tell whether a plain ask is true; 0 of the void text."""
    if plain[0] in WORDED:
        # How much of the word there is; one more if the text is past being right.
        return len(plain[1]) + 1
    if plain[0] == "least":
        return plain[1]
    return plain[2] - 1 if plain[0] == "sum" else 1


def known_behind(plain, known, letter):
    """What is known of a text for a plain ask once a letter is put behind it."""
    if plain[0] in ("begins", "repeats"):
        return right_behind(plain, known, letter)
    if plain[0] in ("ends", "holds"):
        return end_behind(plain, known, letter)
    if plain[0] == "least":
        return min(known + int(letter == plain[2]), plain[1])
    if plain[0] == "sum":
        return (known + plain[1][letter]) % plain[2]
    return 1


def right_behind(plain, known, letter):
    """How much of the word is right from the beginning of the text on, one more than all of it if it isn't right."""
    word = plain[1]
    if known >= len(word):
        return known
    if letter != word[known]:
        return len(word) + 1
    # A word that is whole is begun again, where it may come any number of times.
    return 0 if plain[0] == "repeats" and known + 1 == len(word) else known + 1


def end_behind(plain, known, letter):
    """How long the longest end of the text is that begins the word; all of it for ever, if the word is only held."""
    word = plain[1]
    if plain[0] == "holds" and known >= len(word):
        return known
    end = word[:known] + (letter,)
    return max([many for many in range(len(word) + 1) if many <= len(end) and end[len(end) - many:] == word[:many]])


def is_met(plain, known):
    """Whether a plain ask is true of a text of which so much is known."""
    if plain[0] in ("repeats", "void"):
        return known == 0
    if plain[0] in WORDED:
        return known == len(plain[1])
    return known == plain[3] if plain[0] == "sum" else known == plain[1]

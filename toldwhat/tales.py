"""Tales: edits and keepers as text, and edits told with what the right keeper answers."""

from toldwhat.checks import MOST_ANSWER, check_letters, check_question
from toldwhat.errors import BadLine
from toldwhat.keepers import check_keeper, kept_answers, right_keeper
from toldwhat.questions import state_from
from toldwhat.words import FIGURES, LETTERS, check_string, is_plain_number, words_of
from toldwhat.worlds import MOST_EDITS, check_world, message_of, messages, text_behind, texts_along

# The words with which edits begin, those of all worlds.
EDITING = ("put", "front", "chop", "behead", "take", "turn")

# How many figures a place has at most, and how many the number of a state.
PLACE_FIGURES = 2
STATE_FIGURES = 4


def write_tale(world, letters, edits):
    """The text of edits."""
    check_world(world)
    check_letters(letters)
    # Only to raise the error of edits that are wrong.
    texts_along(world, letters, edits)
    return "\n".join([line_of(edit) for edit in edits])


def read_tale(world, letters, text):
    """The edits that a text tells."""
    check_world(world)
    check_letters(letters)
    check_string(text)
    edits = []
    now = ()
    for line, row in enumerate(text.split("\n"), start=1):
        words = words_of(row)
        if words:
            edit = edit_told(world, letters, words, line)
            now = text_behind(world, letters, now, edit)
            if now is None or len(edits) == MOST_EDITS:
                raise BadLine(line, 1)
            edits.append(edit)
    return tuple(edits)


def tale(world, question, edits):
    """For each of the edits its message, the text behind it, and what the right keeper answers there."""
    check_world(world)
    check_question(question)
    texts = texts_along(world, question[0], edits)
    row = [message_of(edit) for edit in edits]
    answers = kept_answers(messages(world, question[0]), right_keeper(world, question), row)
    return tuple([(message, texts[at], answers[at]) for at, message in enumerate(row, start=1)])


def is_kept_true(world, question, edits):
    """Whether what the right keeper answers behind each of the edits is what the question answers."""
    rows = tale(world, question, edits)
    return all([question[2][state_from(question[1], 0, text)] == told for _, text, told in rows])


def write_keeper(world, letters, keeper):
    """The text of a keeper."""
    check_world(world)
    check_letters(letters)
    check_keeper(world, letters, keeper)
    rows = [[str(told), ":"] + [str(state) for state in row] for row, told in zip(keeper[0], keeper[1])]
    return "\n".join([" ".join(row) for row in rows])


def read_keeper(world, letters, text):
    """The keeper that a text tells."""
    check_world(world)
    check_letters(letters)
    check_string(text)
    steps = []
    answers = []
    for line, row in enumerate(text.split("\n"), start=1):
        words = row.split(" ")
        check_state_words(words, line)
        answers.append(int(words[0]))
        steps.append(tuple([int(word) for word in words[2:]]))
    found = (tuple(steps), tuple(answers))
    check_keeper(world, letters, found)
    return found


def line_of(edit):
    """The line that tells an edit."""
    if edit[0] == "turn":
        return " ".join(["turn"] + [LETTERS[letter] for row in edit[1:] for letter in row])
    return " ".join([edit[0], LETTERS[edit[1]]] + [str(place) for place in edit[2:]])


def edit_told(world, letters, words, line):
    """The edit that the words of a line tell, were there such a one."""
    if words[0] not in EDITING:
        raise BadLine(line, 1)
    if words[0] == "turn":
        return turn_told(world, letters, words, line)
    edit = (words[0], letter_told(letters, words, 1, line))
    if len(words) > 2:
        if not is_plain_number(words[2], PLACE_FIGURES):
            raise BadLine(line, 3)
        edit = edit + (int(words[2]),)
    if len(words) > 3:
        raise BadLine(line, 4)
    return edit


def turn_told(world, letters, words, line):
    """The edit that the words of a line tell, the first of which is turn."""
    # In "relabel" none of the letters may be lacking.
    many = max(len(words), 1 + letters if world == "relabel" else 1)
    row = tuple([letter_told(letters, words, at, line) for at in range(1, many)])
    return ("turn", row) if row else ("turn",)


def letter_told(letters, words, at, line):
    """The letter that a word of a line tells."""
    if at >= len(words) or words[at] not in LETTERS[:letters]:
        raise BadLine(line, at + 1)
    return LETTERS.index(words[at])


def check_state_words(words, line):
    """Raise BadLine for the first word of a line that cannot stand where a state of a keeper is told."""
    if words[0] not in FIGURES[:MOST_ANSWER + 1]:
        raise BadLine(line, 1)
    if len(words) < 2 or words[1] != ":":
        raise BadLine(line, 2)
    for at, word in enumerate(words[2:], start=3):
        if not is_plain_number(word, STATE_FIGURES):
            raise BadLine(line, at)

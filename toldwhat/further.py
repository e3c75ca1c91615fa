"""Further worlds of edits: what they do to a text, what a keeper is told of them, and the keepers there."""

from itertools import permutations

from toldwhat.checks import MOST_TEXT, are_numbers, check_letters, check_question
from toldwhat.errors import BadWorld, NoKeeper, TooMany
from toldwhat.keepers import MOST_MEMORIES, is_commuting
from toldwhat.questions import least_of, state_from
from toldwhat.reasons import long_texts
from toldwhat.worlds import text_with, text_without, texts_by

# The words with which the edits of each world begin.
FURTHER_WORDS = {
    "move": ("move", "put"),
    "cut": ("cut", "put"),
    "flip": ("flip", "put"),
    "turned": ("change", "put"),
}

# How many letters an edit of each word tells, and how many places behind them.
TOLD_LETTERS = {"put": 1, "move": 1, "cut": 0, "flip": 0, "change": 2}
TOLD_PLACES = {"put": 0, "move": 2, "cut": 1, "flip": 2, "change": 1}


def further_text(world, letters, edits):
    """The text behind edits of a further world that begin with the void text."""
    check_further(world)
    check_letters(letters)
    return texts_by(edits, lambda text, edit: further_behind(world, letters, text, edit))[-1]


def further_told(world, letters, edits):
    """The tuple of the messages of edits of a further world."""
    # Only to raise the error of edits that are wrong.
    further_text(world, letters, edits)
    return tuple([edit[:1 + TOLD_LETTERS[edit[0]]] for edit in edits])


def further_messages(world, letters):
    """The ascending tuple of all messages of a further world."""
    check_further(world)
    check_letters(letters)
    found = []
    for word in FURTHER_WORDS[world]:
        found.extend(further_messages_with(letters, word, TOLD_LETTERS[word]))
    return tuple(sorted(found))


def can_keep_further(world, question):
    """Whether some keeper of a further world is right for a question."""
    check_further(world)
    check_question(question)
    return is_kept_further(world, least_of(question))


def further_keeper(world, question):
    """A right keeper of a further world."""
    check_further(world)
    check_question(question)
    small = least_of(question)
    if not is_kept_further(world, small):
        raise NoKeeper("no keeper is right")
    memories = further_memories(world, small)
    if len(memories) > MOST_MEMORIES:
        raise TooMany(MOST_MEMORIES)
    numbers = {memory: number for number, memory in enumerate(memories)}
    every = further_messages(world, small[0])
    steps = []
    for memory in memories:
        steps.append(tuple([numbers[memory_behind(small, numbers, memory, message)] for message in every]))
    return tuple(steps), tuple([small[2][state_known(small, memory)] for memory in memories])


def check_further(world):
    """Raise BadWorld for a value that is no further world."""
    # A value that is no string may be one that cannot be looked up.
    if not isinstance(world, str) or world not in FURTHER_WORDS:
        raise BadWorld("not a further world")


def further_messages_with(letters, word, many):
    """All messages that begin with a word and tell so many letters, which are unlike."""
    return [(word,) + row for row in permutations(range(letters), many)]


def is_further_message(world, letters, value):
    """Whether a value is a message of a further world."""
    if not isinstance(value, tuple) or len(value) == 0 or value[0] not in FURTHER_WORDS[world]:
        return False
    if not are_numbers(value[1:], TOLD_LETTERS[value[0]], letters - 1):
        return False
    return value[0] != "change" or value[1] != value[2]


def is_further_edit(world, letters, value):
    """Whether a value is an edit of a further world, were there a text for it."""
    if not isinstance(value, tuple) or len(value) == 0 or value[0] not in FURTHER_WORDS[world]:
        return False
    many = 1 + TOLD_LETTERS[value[0]]
    if not is_further_message(world, letters, value[:many]):
        return False
    return are_numbers(value[many:], TOLD_PLACES[value[0]], MOST_TEXT)


def further_behind(world, letters, text, edit):
    """The text behind an edit of a further world, None for a value that is no edit that can be done there."""
    if not is_further_edit(world, letters, edit):
        return None
    if edit[0] == "put":
        return text_with(text, edit[1], len(text))
    if edit[0] == "cut":
        return text[edit[1]:] + text[:edit[1]] if edit[1] <= len(text) else None
    if edit[0] == "flip":
        return flipped(text, edit[1], edit[2])
    if edit[0] == "move":
        return text_instead(text, edit[1], edit[2], edit[1], edit[3])
    return text_instead(text, edit[1], edit[3], edit[2], edit[3])


def flipped(text, start, end):
    """The text with the letters from one place to ahead of another one turned round, None where it cannot be."""
    if not start <= end <= len(text):
        return None
    return text[:start] + text[start:end][::-1] + text[end:]


def text_instead(text, letter, place, other, instead):
    """The text without a letter at a place, and with another one put in at another place, None where it cannot be."""
    rest = text_without(text, letter, place)
    return None if rest is None else text_with(rest, other, instead)


def is_kept_further(world, small):
    """Whether some keeper of a further world is right for a least question."""
    if not is_commuting(small):
        return False
    return world != "turned" or merged_lasting(small) is None


def merged_lasting(small):
    """A letter and two lasting states that it leads to one, of a least question, None without any."""
    letters, steps, _ = small
    lasting = lasting_states(small)
    for letter in range(letters):
        known = {}
        for state in lasting:
            other = known.setdefault(steps[state][letter], state)
            if other != state:
                return letter, other, state
    return None


def lasting_states(small):
    """The ascending list of the states to which long texts lead, of a least question."""
    return sorted(long_texts(small, len(small[1])))


def further_memories(world, small):
    """What is remembered of texts: the state, but of short texts in "turned" how many of each letter there are."""
    if world != "turned":
        # The order alone changes, and where letters commute it does not count.
        return list(range(len(small[1])))
    lasting = lasting_states(small)
    return short_counts(small, lasting) + lasting


def short_counts(small, lasting):
    """How many of each letter there are in texts too short to lead to lasting states only, none of any first."""
    letters, steps, _ = small
    states = [0]
    found = []
    length = 0
    while not all([state in lasting for state in states]):
        found.extend(counts_of(letters, length))
        states = sorted({reached for state in states for reached in steps[state]})
        length += 1
    return found


def counts_of(letters, total):
    """All tuples of how many there are of each letter, so many in all."""
    if letters == 1:
        return [(total,)]
    return [(many,) + rest for many in range(total + 1) for rest in counts_of(letters - 1, total - many)]


def memory_behind(small, numbers, memory, message):
    """What a memory becomes by a message of a further world, where numbers knows all memories."""
    if isinstance(memory, int):
        return state_behind(small, numbers, memory, message)
    counts = list(memory)
    if message[0] == "change":
        # Where there is no such letter, it cannot become another one, and nobody asks what is remembered then.
        if counts[message[1]] == 0:
            return memory
        counts[message[1]] -= 1
    counts[message[-1]] += 1
    return tuple(counts) if tuple(counts) in numbers else state_known(small, tuple(counts))


def state_behind(small, numbers, state, message):
    """What a state that is remembered becomes by a message of a further world."""
    steps = small[1]
    if message[0] == "put":
        return steps[state][message[1]]
    if message[0] != "change":
        return state
    # Those remembered are the lasting ones, and each letter leads just one of them to this one.
    before = [other for other, row in enumerate(steps) if other in numbers and row[message[1]] == state]
    return steps[before[0]][message[2]]


def state_known(small, memory):
    """The state of the texts of which there is a memory."""
    if isinstance(memory, int):
        return memory
    state = 0
    for letter, many in enumerate(memory):
        state = state_from(small[1], state, (letter,) * many)
    return state

"""What keepers of further worlds answer, why a question has no right one there, and edits that mislead each."""

from toldwhat.checks import MOST_TEXT, check_letters, check_question, is_number, is_text
from toldwhat.errors import Answerable, BadEdits, TooMany
from toldwhat.fools import ends_wrong, puts_alone, puts_of, turn_of
from toldwhat.further import (
    check_further, further_messages, further_text, further_told, is_further_message, is_kept_further, merged_lasting,
)
from toldwhat.keepers import check_messages, check_states, is_commuting, kept_answers
from toldwhat.questions import least_of, parting_of, state_from
from toldwhat.reasons import is_order, long_texts, order_reason, parting_texts
from toldwhat.worlds import MOST_EDITS

MOST_AHEAD = 80
MOST_BEHIND = 160


def keep_further(world, letters, keeper, row):
    """What a keeper of a further world answers at first and behind each of a row of messages."""
    check_further(world)
    check_letters(letters)
    every = further_messages(world, letters)
    check_states(keeper, len(every))
    check_messages(row, lambda message: is_further_message(world, letters, message))
    return kept_answers(every, keeper, row)


def further_reason(world, question):
    """Texts and letters that show why a question has no right keeper in a further world, None if it has one."""
    check_further(world)
    check_question(question)
    small = least_of(question)
    if is_kept_further(world, small):
        return None
    if not is_commuting(small):
        return order_reason(small)
    letter, one, other = merged_lasting(small)
    texts = long_texts(small, len(small[1]))
    return "merge", texts[one], texts[other], letter, parting_texts(small)[(one, other)]


def shows_further_reason(world, question, value):
    """Whether a value is what further_reason may return."""
    check_further(world)
    check_question(question)
    small = least_of(question)
    if value is None:
        return is_kept_further(world, small)
    if not isinstance(value, tuple) or len(value) != 5:
        return False
    if value[0] == "order":
        return is_order(small, value)
    return value[0] == "merge" and world == "turned" and is_further_merge(small, value)


def mislead(world, question, keeper):
    """Edits at whose end a keeper answers wrong, of a question that nobody can keep in a further world."""
    check_unkept(world, question, keeper)
    small = least_of(question)
    rows = misleading_rows(world, small, keeper)
    found = [edits for edits in rows if is_misled(world, small, keeper, edits)]
    if not found:
        # Some of the rows do mislead him, but cannot be done: they are too long.
        raise TooMany(MOST_EDITS)
    return min(found, key=len)


def shows_misled(world, question, keeper, value):
    """Whether a value is edits at whose end a keeper answers wrong."""
    check_unkept(world, question, keeper)
    return is_misled(world, question, keeper, value)


def check_unkept(world, question, keeper):
    """Raise the error of the leftmost argument that is not allowed, or Answerable if some keeper is right."""
    check_further(world)
    check_question(question)
    check_states(keeper, len(further_messages(world, question[0])))
    if is_kept_further(world, least_of(question)):
        raise Answerable("some keeper is right")


def is_further_merge(small, value):
    """Whether a tuple of five shows that a letter leads unlike lasting states to one."""
    letters, steps, answers = small
    _, one, other, a, behind = value
    if not all([is_text(text, letters) for text in (one, other, behind)]) or not is_number(a, 0, letters - 1):
        return False
    if not all([len(steps) <= len(text) <= MOST_AHEAD for text in (one, other)]) or len(behind) > MOST_BEHIND:
        return False
    states = [state_from(steps, 0, text) for text in (one, other)]
    if steps[states[0]][a] != steps[states[1]][a]:
        return False
    reached = [state_from(steps, state, behind) for state in states]
    return answers[reached[0]] != answers[reached[1]]


def is_misled(world, question, keeper, value):
    """Whether a value is edits at whose end a keeper answers wrong."""
    letters = question[0]
    try:
        row = further_told(world, letters, value)
    except BadEdits:
        return False
    return ends_wrong(question, further_text(world, letters, value), keeper, further_messages(world, letters), row)


def misleading_rows(world, small, keeper):
    """Rows of edits, some of them too long perhaps, of which one or more mislead a keeper."""
    alone = puts_alone(small[0], keeper, further_messages(world, small[0]))
    text = parting_of(small, alone)
    rows = [] if text is None else [puts_of(text)]
    if not is_commuting(small):
        return rows + ordered_rows(world, order_reason(small))
    for letter in range(small[0]):
        rows.extend(changed_rows(small, alone, letter))
    return rows


def ordered_rows(world, why):
    """Two rows of edits with the same messages, behind which the texts are answered unlike by the order of letters."""
    _, before, a, b, behind = why
    spot = len(before)
    if world == "cut":
        # All the text is turned on until the letters that are put last stand ahead.
        tail = puts_of(behind + before) + (("cut", 2 + len(behind)),)
        return [puts_of((a, b)) + (("cut", place),) + tail for place in (0, 1)]
    row = puts_of(before + (a, b) + behind)
    if world == "move":
        return [row + (("move", a, spot, place),) for place in (spot, spot + 1)]
    if world == "flip":
        return [row + (("flip", spot, place),) for place in (spot, spot + 2)]
    # Behind the first change both letters are alike, and either may become the one that it was.
    return [row + (("change", a, b, spot), ("change", b, a, place)) for place in (spot, spot + 1)]


def changed_rows(small, alone, letter):
    """Rows of edits, two by two: behind both the keeper is in one state, and the texts are answered unlike.

    A letter again and again must bring the keeper from the beginning to a state twice. Then he does not know how often
    it came; and once as many of it as came in the first row are other letters, there is more of it in the second one.
    """
    few, many = turn_of(alone[1], 0, letter)
    if few > MOST_TEXT:
        return []
    texts = long_texts(small, few)
    tails = parting_texts(small)
    rows = []
    for state in texts:
        left = state_from(small[1], state, (letter,) * (many - few))
        # A letter that leads lasting states to one leads some of them where it never leads back from.
        if left != state:
            for times in (few, many):
                rows.append(changed_row(letter, few, times, texts[state]) + puts_of(tails[(state, left)]))
    return rows


def changed_row(letter, few, times, text):
    """Edits that put in a letter so many times, and then make just few of it, and no more, a text in some order."""
    kept = text.count(letter)
    others = tuple([other for other in text if other != letter])
    # The order of letters that commute does not count.
    aim = (letter,) * kept + others
    changes = tuple([("change", letter, aim[place], place) for place in range(kept, few)])
    return puts_of((letter,) * times) + changes + puts_of(aim[few:])

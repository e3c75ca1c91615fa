"""Why a question has no right keeper, and edits at whose end a keeper answers wrong."""

from toldwhat.checks import check_question, is_number
from toldwhat.errors import Answerable, BadEdits, BadNumber, TooMany
from toldwhat.keepers import PLACELESS, TAKING, check_keeper, is_commuting, is_kept, kept_answers
from toldwhat.questions import least_of, parting_of, state_from
from toldwhat.reasons import first_texts, is_merge, is_order, merge_reason, order_reason, parting_texts
from toldwhat.worlds import MOST_EDITS, PLACED, check_world, messages, text_after, text_by, told

MOST_FIRST = 6
MOST_PAIRS = 100000


def reason(world, question):
    """Texts and letters that show why a question has no right keeper, None if it has one."""
    check_world(world)
    check_question(question)
    small = least_of(question)
    if is_kept(world, small):
        return None
    if world in PLACELESS and not is_commuting(small):
        return order_reason(small)
    return merge_reason(small)


def shows_reason(world, question, value):
    """Whether a value is what reason may return."""
    check_world(world)
    check_question(question)
    small = least_of(question)
    if value is None:
        return is_kept(world, small)
    if not isinstance(value, tuple) or len(value) != 5:
        return False
    if value[0] == "order":
        return world in PLACELESS and is_order(small, value)
    return value[0] == "merge" and world in TAKING and is_merge(small, value)


def fool(world, question, keeper):
    """Edits at whose end a keeper answers wrong, of a question that nobody can keep."""
    check_told(world, question, keeper)
    small = least_of(question)
    if is_kept(world, small):
        raise Answerable("some keeper is right")
    rows = fooling_rows(world, small, keeper)
    fooled = [edits for edits in rows if is_fooled(world, small, keeper, edits)]
    if not fooled:
        # Some of the rows do fool him, but cannot be done: they are too long.
        raise TooMany(MOST_EDITS)
    return min(fooled, key=len)


def shows_fooled(world, question, keeper, value):
    """Whether a value is edits at whose end a keeper answers wrong."""
    check_told(world, question, keeper)
    return is_fooled(world, question, keeper, value)


def first_wrong(world, question, keeper, most):
    """The fewest edits, at most so many, at whose end a keeper answers wrong, None if there are none."""
    check_told(world, question, keeper)
    if not is_number(most, 0, MOST_FIRST):
        raise BadNumber("not how many edits there may be")
    start = ((), 0)
    if is_wrong(question, keeper, start):
        return ()
    row = messages(world, question[0])
    came = {start: ()}
    pairs = [start]
    done = 0
    # There always are pairs by one edit more: letters can be put in.
    while len(came[pairs[done]]) < most:
        pair = pairs[done]
        for edit, reached in pairs_behind(world, row, keeper, pair):
            if reached in came:
                continue
            if len(came) == MOST_PAIRS:
                raise TooMany(MOST_PAIRS)
            came[reached] = came[pair] + (edit,)
            # Pairs come by how many edits lead to them, so none comes wrong by fewer.
            if is_wrong(question, keeper, reached):
                return came[reached]
            pairs.append(reached)
        done += 1
    return None


def shows_first_wrong(world, question, keeper, most, value):
    """Whether a value is what first_wrong may return."""
    found = first_wrong(world, question, keeper, most)
    if found is None:
        return value is None
    return is_fooled(world, question, keeper, value) and len(value) == len(found)


def check_told(world, question, keeper):
    """Raise the error of the leftmost argument that is not allowed."""
    check_world(world)
    check_question(question)
    check_keeper(world, question[0], keeper)


def is_fooled(world, question, keeper, value):
    """Whether a value is edits at whose end a keeper answers wrong."""
    letters = question[0]
    try:
        row = told(world, letters, value)
    except BadEdits:
        return False
    return ends_wrong(question, text_after(world, letters, value), keeper, messages(world, letters), row)


def ends_wrong(question, text, keeper, every, row):
    """Whether a keeper answers wrong for a text behind a row of messages, which are some of every."""
    state = state_from(question[1], 0, text)
    return kept_answers(every, keeper, row)[-1] != question[2][state]


def fooling_rows(world, small, keeper):
    """Rows of edits, some of them too long perhaps, of which one or more fool a keeper."""
    alone = puts_alone(small[0], keeper, messages(world, small[0]))
    rows = []
    text = parting_of(small, alone)
    if text is not None:
        rows.append(edits_at_end(world, puts_of(text)))
    if world in PLACELESS and not is_commuting(small):
        rows.extend(order_rows(world, small))
    if world in TAKING:
        rows.extend([edits_at_end(world, told_row) for told_row in merge_rows(world, small, alone)])
    return rows


def puts_alone(letters, keeper, every):
    """What a keeper answers who is told of letters that are put behind the last one: it is a question, too."""
    places = [every.index(("put", letter)) for letter in range(letters)]
    return letters, tuple([tuple([row[place] for place in places]) for row in keeper[0]]), keeper[1]


def order_rows(world, small):
    """Two rows of edits with the same messages, behind which the texts are answered unlike."""
    _, before, a, b, behind = order_reason(small)
    row = edits_at_end(world, puts_of(before + (a, b) + behind))
    spot = len(before)
    return [row, row[:spot + 1] + (("put", b, spot),) + row[spot + 2:]]


def merge_rows(world, small, alone):
    """Rows of messages, two by two: behind both the keeper is in one state, and the texts are answered unlike.

    A letter again and again must bring the keeper from a state back to it. Then he does not know how often it came; and
    once it is taken off as often as it came in the first row, something of it is left in the second one.
    """
    letters, steps, _ = small
    off = "take" if world in PLACED else "chop"
    firsts = first_texts(small)
    tails = parting_texts(small)
    rows = []
    for state in range(len(steps)):
        for letter in range(letters):
            few, many = turn_of(alone[1], state_from(alone[1], 0, firsts[state]), letter)
            left = state_from(steps, state, (letter,) * (many - few))
            # Somewhere a letter leads from a state that it never leads back to, and there these are unlike.
            if left != state:
                tail = ((off, letter),) * few + puts_of(tails[(state, left)])
                for times in (few, many):
                    rows.append(puts_of(firsts[state] + (letter,) * times) + tail)
    return rows


def turn_of(steps, state, letter):
    """The two least numbers of times for which a letter leads from a state to the same one."""
    known = {}
    while state not in known:
        known[state] = len(known)
        state = steps[state][letter]
    return known[state], len(known)


def puts_of(text):
    """The messages of letters that are put in one behind the other."""
    return tuple([("put", letter) for letter in text])


def edits_at_end(world, row):
    """The edits that have a row of messages and all change the end of the text."""
    if world not in PLACED:
        return row
    found = []
    length = 0
    for word, letter in row:
        if word == "put":
            found.append((word, letter, length))
            length += 1
        else:
            length -= 1
            found.append((word, letter, length))
    return tuple(found)


def is_wrong(question, keeper, pair):
    """Whether a keeper in a state answers wrong for a text."""
    text, state = pair
    return keeper[1][state] != question[2][state_from(question[1], 0, text)]


def pairs_behind(world, row, keeper, pair):
    """All edits that can be done to a text, each with the pair of a text and a state to which it leads."""
    text, state = pair
    found = []
    for number, message in enumerate(row):
        for edit in edits_told(world, message, text):
            reached = text_by(text, edit)
            if reached is not None:
                found.append((edit, (reached, keeper[0][state][number])))
    return found


def edits_told(world, message, text):
    """All edits that have a message, some that cannot be done to the text among them."""
    if world not in PLACED:
        return [message]
    return [message + (place,) for place in range(len(text) + 1)]

"""Keepers: which questions can be kept in a world, the right keeper, and what a keeper answers."""

from toldwhat.checks import MOST_ANSWER, are_numbers, check_letters, check_question, is_number
from toldwhat.errors import BadKeeper, BadMessages, NoKeeper
from toldwhat.memories import first_memory, move_of, numbered
from toldwhat.questions import least_of
from toldwhat.worlds import check_world, is_message, messages

MOST_MEMORIES = 3000
MOST_MESSAGES = 100

# The worlds that tell a letter but not where it is put in: there letters must commute.
PLACELESS = ("in", "inout")

# The worlds that take letters out: there each letter must lead unlike states to unlike states.
TAKING = ("stack", "deque", "inout")


def can_keep(world, question):
    """Whether some keeper is right for a question."""
    check_world(world)
    check_question(question)
    return is_kept(world, least_of(question))


def keeper(world, question):
    """The right keeper with the fewest states."""
    check_world(world)
    check_question(question)
    return right_keeper(world, question)


def keep(world, letters, keeper, row):
    """What a keeper answers at first and behind each of a row of messages."""
    check_world(world)
    check_letters(letters)
    check_keeper(world, letters, keeper)
    check_row(world, letters, row)
    return kept_answers(messages(world, letters), keeper, row)


def right_keeper(world, question):
    """The right keeper with the fewest states, of values that are known to be a world and a question."""
    small = least_of(question)
    if not is_kept(world, small):
        raise NoKeeper("no keeper is right")
    moves = [move_of(world, small, message) for message in messages(world, small[0])]
    # No two memories are one: what is still to come can bring unlike answers.
    steps, memories = numbered(first_memory(world, small), moves, MOST_MEMORIES)
    return steps, tuple([small[2][memory[0]] for memory in memories])


def is_kept(world, small):
    """Whether some keeper is right for a least question."""
    if world in PLACELESS and not is_commuting(small):
        return False
    return world not in TAKING or is_parting(small)


def is_commuting(small):
    """Whether in a least question any two letters lead from each state where they lead the other way round."""
    letters, steps, _ = small
    for row in steps:
        for a in range(letters):
            if any([steps[row[a]][b] != steps[row[b]][a] for b in range(a)]):
                return False
    return True


def is_parting(small):
    """Whether in a least question each letter leads unlike states to unlike states."""
    letters, steps, _ = small
    return all([len({row[letter] for row in steps}) == len(steps) for letter in range(letters)])


def check_keeper(world, letters, value):
    """Raise BadKeeper for a value that is no keeper of a world for so many letters."""
    check_states(value, len(messages(world, letters)))


def check_states(value, many):
    """Raise BadKeeper for a value that is no keeper who is told so many messages."""
    if not isinstance(value, tuple) or len(value) != 2:
        raise BadKeeper(None)
    steps, answers = value
    if not isinstance(steps, tuple) or not 1 <= len(steps) <= MOST_MEMORIES:
        raise BadKeeper(None)
    if not isinstance(answers, tuple) or len(answers) != len(steps):
        raise BadKeeper(None)
    for state, row in enumerate(steps):
        if not are_numbers(row, many, len(steps) - 1) or not is_number(answers[state], 0, MOST_ANSWER):
            raise BadKeeper(state)


def check_row(world, letters, row):
    """Raise BadMessages for a value that is no row of messages of a world."""
    check_messages(row, lambda message: is_message(world, letters, message))


def check_messages(row, is_told):
    """Raise BadMessages for a value that is no row of messages, where is_told knows them."""
    if not isinstance(row, tuple) or len(row) > MOST_MESSAGES:
        raise BadMessages(None)
    for index, message in enumerate(row):
        if not is_told(message):
            raise BadMessages(index)


def kept_answers(every, keeper, row):
    """What a keeper of a world with these messages answers at first and behind each of any number of them."""
    numbers = {message: number for number, message in enumerate(every)}
    steps, answers = keeper
    state = 0
    found = [answers[0]]
    for message in row:
        state = steps[state][numbers[message]]
        found.append(answers[state])
    return tuple(found)

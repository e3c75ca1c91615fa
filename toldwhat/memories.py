"""What right keepers remember of a text, and how it becomes another by each message.

A memory is a tuple of states of the least question, the first of them the state of the text. A move has a pair for each
place of the memory behind a message: a place of the memory ahead of it, and the table of what the state there becomes.
"""

from itertools import permutations

from toldwhat.errors import TooMany

# The worlds in which letters come ahead of the text, too: there the map of the text is remembered.
TWO_ENDED = ("ends", "deque")


def first_memory(world, small):
    """What is remembered of the void text, of a least question."""
    states = tuple(range(len(small[1])))
    if world in TWO_ENDED:
        return states
    if world == "reverse":
        # The map of the text, and that of the text turned round.
        return states + states
    if world == "relabel":
        # The state of the text under each relabelling, the one that changes nothing first.
        return (0,) * len(relabellings(small[0]))
    return (0,)


def move_of(world, small, message):
    """The move of a message, of a least question."""
    if world == "relabel":
        return relabel_move(small, message)
    if world == "reverse":
        return reverse_move(small, message)
    if message[0] in ("front", "behead"):
        return ahead_move(table_of(small, message), 0)
    return behind_move(table_of(small, message), len(first_memory(world, small)))


def table_of(small, message):
    """For each state the one to which a letter leads; for a letter taken off, the one from which it does."""
    word, letter = message
    forward = tuple([row[letter] for row in small[1]])
    if word in ("put", "front"):
        return forward
    # Who can be told of letters taken off has letters that lead unlike states to unlike states.
    back = [0] * len(forward)
    for state, reached in enumerate(forward):
        back[reached] = state
    return tuple(back)


def behind_move(table, many):
    """The move by which each of so many states goes on by a table: a letter at the end of the text."""
    return tuple([(place, table) for place in range(many)])


def ahead_move(table, start):
    """The move by which the map that begins at a place is gone to by a table first: a letter ahead of the text."""
    still = tuple(range(len(table)))
    return tuple([(start + state, still) for state in table])


def reverse_move(small, message):
    """The move of a message, where the map of the text and that of the text turned round are remembered."""
    many = len(small[1])
    if message[0] == "put":
        table = table_of(small, message)
        return behind_move(table, many) + ahead_move(table, many)
    still = tuple(range(many))
    return tuple([((many + place) % (2 * many), still) for place in range(2 * many)])


def relabel_move(small, message):
    """The move of a message, where the state under each relabelling is remembered."""
    rows = relabellings(small[0])
    if message[0] == "put":
        return tuple([(place, table_of(small, ("put", row[message[1]]))) for place, row in enumerate(rows)])
    still = tuple(range(len(small[1])))
    # Relabelled by the message and then by a row is relabelled by a row of both.
    joined = [tuple([row[letter] for letter in message[1]]) for row in rows]
    return tuple([(rows.index(row), still) for row in joined])


def relabellings(letters):
    """All rows by which letters become others, ascending."""
    return list(permutations(range(letters)))


def numbered(start, moves, most):
    """The steps of all memories that come, and these, numbered as they are first come to."""
    memories = [start]
    numbers = {start: 0}
    steps = []
    while len(steps) < len(memories):
        memory = memories[len(steps)]
        row = []
        for move in moves:
            reached = tuple([table[memory[place]] for place, table in move])
            if reached not in numbers:
                numbers[reached] = len(memories)
                memories.append(reached)
            row.append(numbers[reached])
        if len(memories) > most:
            raise TooMany(most)
        steps.append(tuple(row))
    return tuple(steps), memories

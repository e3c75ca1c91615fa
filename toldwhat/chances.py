"""Counts alone: what a question may answer where only how many of each letter there are is known."""

from toldwhat.checks import are_numbers, check_question, is_number
from toldwhat.errors import BadNumber
from toldwhat.questions import least_of

MOST_COUNT = 20
MOST_SURE = 5


def arrangements(question, counts):
    """The ascending tuple of the answers that texts with such counts have, each with how many texts have it."""
    check_question(question)
    if not are_numbers(counts, question[0], MOST_COUNT):
        raise BadNumber("not counts of all letters")
    small = least_of(question)
    return answers_of(small, ways_up_to(small, counts)[counts])


def possible(question, counts):
    """The ascending tuple of the answers that texts with such counts have."""
    return tuple([told for told, _ in arrangements(question, counts)])


def is_sure(question, counts):
    """Whether all texts with such counts have one answer."""
    return len(arrangements(question, counts)) == 1


def sure_counts(question, most):
    """The ascending tuple of the counts, each at most so many, of which all texts have one answer."""
    check_question(question)
    if not is_number(most, 0, MOST_SURE):
        raise BadNumber("not how many of a letter there may be")
    small = least_of(question)
    ways = ways_up_to(small, (most,) * small[0])
    return tuple([counts for counts in ways if len(answers_of(small, ways[counts])) == 1])


def answers_of(small, states):
    """The ascending tuple of answers and how many texts have them, where states knows how many texts lead to each."""
    found = {}
    for state in states:
        told = small[2][state]
        found[told] = found.get(told, 0) + states[state]
    return tuple(sorted(list(found.items())))


def ways_up_to(small, counts):
    """For all counts up to some, ascending, for each state how many texts with such counts lead there."""
    found = {}
    for row in counts_up_to(counts):
        # The void text leads to state 0 alone.
        states = {} if any(row) else {0: 1}
        for letter, many in enumerate(row):
            if many > 0:
                add_ways(states, small, letter, found[row[:letter] + (many - 1,) + row[letter + 1:]])
        found[row] = states
    return found


def add_ways(states, small, letter, before):
    """Add the texts that have a letter behind those ahead of it."""
    for state in before:
        reached = small[1][state][letter]
        states[reached] = states.get(reached, 0) + before[state]


def counts_up_to(counts):
    """All counts that are nowhere more than some, ascending."""
    rows = [()]
    for most in counts:
        rows = [row + (many,) for row in rows for many in range(most + 1)]
    return rows

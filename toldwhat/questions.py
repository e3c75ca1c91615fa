"""Questions about a text, their least form, and the maps of texts."""

from toldwhat.checks import check_question, check_text
from toldwhat.errors import NotAlike, TooMany

MOST_MAPS = 2000


def state_of(question, text):
    """The state to which the letters of a text lead from state 0."""
    check_question(question)
    check_text(text, question[0])
    return state_from(question[1], 0, text)


def answer(question, text):
    """What a question answers for a text."""
    state = state_of(question, text)
    return question[2][state]


def least(question):
    """The question with the fewest states that has the same answer for every text."""
    check_question(question)
    return least_of(question)


def are_alike(one, other):
    """Whether two questions have the same answer for every text."""
    check_alike(one, other)
    # States are numbered in one way only, so questions alike have equal least ones.
    return least_of(one) == least_of(other)


def parting_text(one, other):
    """The least of the shortest texts that two questions answer unlike, None without one."""
    check_alike(one, other)
    return parting_of(one, other)


def maps(question):
    """The ascending tuple of the unlike maps of all texts."""
    letters, steps, _ = least(question)
    # The void text leads from each state to itself.
    found = [tuple(range(len(steps)))]
    known = {found[0]: True}
    done = 0
    while done < len(found):
        states = found[done]
        for letter in range(letters):
            reached = tuple([steps[state][letter] for state in states])
            if reached not in known:
                known[reached] = True
                found.append(reached)
        if len(found) > MOST_MAPS:
            raise TooMany(MOST_MAPS)
        done += 1
    return tuple(sorted(found))


def map_of(question, text):
    """For each state of the least question, the state to which a text leads from there."""
    check_question(question)
    check_text(text, question[0])
    steps = least_of(question)[1]
    return tuple([state_from(steps, state, text) for state in range(len(steps))])


def check_alike(one, other):
    """Raise an error for two values that are not two questions of as many letters."""
    check_question(one)
    check_question(other)
    if one[0] != other[0]:
        raise NotAlike("questions of unlike letters")


def state_from(steps, state, text):
    """The state to which the letters of a text lead from a state."""
    for letter in text:
        state = steps[state][letter]
    return state


def parting_of(one, other):
    """The least of the shortest texts that two questions of as many letters answer unlike, None without one."""
    # Pairs come by length and then by letters, so the first that parts has the text asked for.
    pairs = [(0, 0)]
    came = {(0, 0): None}
    done = 0
    while done < len(pairs):
        first, second = pairs[done]
        if one[2][first] != other[2][second]:
            return text_back(came, pairs[done])
        for letter in range(one[0]):
            reached = (one[1][first][letter], other[1][second][letter])
            if reached not in came:
                came[reached] = (pairs[done], letter)
                pairs.append(reached)
        done += 1
    return None


def text_back(came, place):
    """The letters that lead to a place, where each place knows the one ahead of it and the letter between."""
    text = []
    while came[place] is not None:
        place, letter = came[place]
        text.append(letter)
    return tuple(text[::-1])


def least_of(question, most=None):
    """The least question of one, or TooMany if it has more states than most, where texts lead to all states."""
    letters, steps, answers = question
    groups = groups_of(question, most)
    # One state stands for all of its group: the first that is come to.
    chosen = [0]
    numbers = {groups[0]: 0}
    rows = []
    while len(rows) < len(chosen):
        state = chosen[len(rows)]
        row = []
        for reached in steps[state]:
            if groups[reached] not in numbers:
                numbers[groups[reached]] = len(chosen)
                chosen.append(reached)
            row.append(numbers[groups[reached]])
        rows.append(tuple(row))
    return letters, tuple(rows), tuple([answers[state] for state in chosen])


def groups_of(question, most=None):
    """For each state the number of its group: states of one group answer alike behind every text."""
    groups = list(question[2])
    many = 0
    # A round that makes no more groups than there were will make none later either.
    while len(set(groups)) > many:
        many = len(set(groups))
        # What is parted stays parted: there will be no fewer groups.
        if most is not None and many > most:
            raise TooMany(most)
        groups = parted_groups(question[1], groups)
    return groups


def parted_groups(steps, groups):
    """The groups parted once more, by the groups to which each letter leads."""
    numbers = {}
    parted = []
    for state, row in enumerate(steps):
        sign = (groups[state], tuple([groups[reached] for reached in row]))
        parted.append(numbers.setdefault(sign, len(numbers)))
    return parted

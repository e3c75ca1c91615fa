"""Why a question cannot be kept: texts and letters that show it, and whether given ones do."""

from toldwhat.checks import is_number, is_text
from toldwhat.questions import state_from

MOST_REASON = 160


def order_reason(small):
    """A reason, of as few letters as can be, why a least question whose letters do not commute cannot be kept."""
    letters, steps, _ = small
    firsts = first_texts(small)
    tails = parting_texts(small)
    found = []
    for state, row in enumerate(steps):
        for a in range(letters):
            for b in range(a):
                pair = (steps[row[a]][b], steps[row[b]][a])
                if pair in tails:
                    found.append(("order", firsts[state], a, b, tails[pair]))
    return min(found, key=lambda value: len(value[1]) + len(value[4]))


def merge_reason(small):
    """A reason why a least question of which a letter leads unlike states to one cannot be kept."""
    letters, steps, _ = small
    firsts = first_texts(small)
    tails = parting_texts(small)
    for letter in range(letters):
        known = {}
        for state, row in enumerate(steps):
            other = known.setdefault(row[letter], state)
            if other != state:
                return "merge", firsts[other], firsts[state], letter, tails[(other, state)]
    return None


def is_order(small, value):
    """Whether a tuple of five shows that the order of two letters counts."""
    letters, steps, answers = small
    _, before, a, b, behind = value
    if not are_parts(letters, (before, behind), (a, b)):
        return False
    state = state_from(steps, 0, before)
    reached = [state_from(steps, state, pair + behind) for pair in ((a, b), (b, a))]
    return answers[reached[0]] != answers[reached[1]]


def is_merge(small, value):
    """Whether a tuple of five shows that a letter leads unlike states to one."""
    letters, steps, answers = small
    _, before, instead, a, behind = value
    if not are_parts(letters, (before, instead, behind), (a,)):
        return False
    states = [state_from(steps, 0, text) for text in (before, instead)]
    if steps[states[0]][a] != steps[states[1]][a]:
        return False
    reached = [state_from(steps, state, behind) for state in states]
    return answers[reached[0]] != answers[reached[1]]


def are_parts(letters, texts, alone):
    """Whether values are texts and letters, and not too many letters in all."""
    if not all([is_text(text, letters) for text in texts]):
        return False
    if sum([len(text) for text in texts]) + len(alone) > MOST_REASON:
        return False
    return all([is_number(letter, 0, letters - 1) for letter in alone])


def first_texts(small):
    """For each state of a least question the least of the shortest texts that lead there."""
    return long_texts(small, 0)


def long_texts(small, least_many):
    """For each state to which a text of so many letters or more leads a shortest one of these."""
    found = {0: ()}
    for _ in range(least_many):
        found = texts_longer(small, found)
    states = list(found)
    done = 0
    while done < len(states):
        longer = texts_longer(small, {states[done]: found[states[done]]})
        for reached in longer:
            if reached not in found:
                found[reached] = longer[reached]
                states.append(reached)
        done += 1
    return found


def texts_longer(small, texts):
    """For each state to which one letter more leads a text, from those that states have."""
    found = {}
    for state in texts:
        for letter, reached in enumerate(small[1][state]):
            found.setdefault(reached, texts[state] + (letter,))
    return found


def parting_texts(small):
    """For each two states of a least question a shortest text that they answer unlike."""
    letters, steps, answers = small
    states = range(len(steps))
    every = [(one, other) for one in states for other in states if one != other]
    found = {}
    for one, other in every:
        if answers[one] != answers[other]:
            found[(one, other)] = ()
    # Each round finds the texts that are longer by one letter.
    while len(found) < len(every):
        longer = []
        for one, other in [pair for pair in every if pair not in found]:
            for letter in range(letters):
                reached = (steps[one][letter], steps[other][letter])
                if reached in found:
                    longer.append(((one, other), (letter,) + found[reached]))
                    break
        for pair, text in longer:
            found[pair] = text
    return found

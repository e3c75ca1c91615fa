"""Sums of letter weights in finite commutative groups, and two questions as one."""

from toldwhat.checks import MOST_ANSWER, MOST_STATES, check_question, is_number
from toldwhat.errors import BadQuestion, NoKeeper
from toldwhat.keepers import is_kept
from toldwhat.lattices import plain_form
from toldwhat.memories import numbered
from toldwhat.questions import check_alike, least_of
from toldwhat.worlds import check_world


def sums(question):
    """Moduli, weights of the letters, and the answer for each sum of weights."""
    small = summed(question)
    moduli, weights = weights_of(small)
    found = {}
    for state, total in sums_met(small, moduli, weights):
        found[total] = small[2][state]
    return moduli, weights, {total: found[total] for total in sorted(found)}


def shows_sums(question, value):
    """Whether a value is moduli, weights and answers by which the question is a sum of letter weights."""
    small = summed(question)
    if not isinstance(value, tuple) or len(value) != 3:
        return False
    moduli, weights, answers = value
    many = len(small[1])
    if not are_moduli(moduli, many) or not isinstance(weights, tuple) or len(weights) != small[0]:
        return False
    if not all([is_sum(weight, moduli) for weight in weights]):
        return False
    if not isinstance(answers, dict) or len(answers) != many:
        return False
    if not all([is_sum(total, moduli) and is_number(answers[total], 0, MOST_ANSWER) for total in answers]):
        return False
    # With no more sums than states, right answers for all texts come only where texts have all of the sums.
    return all([answers[total] == small[2][state] for state, total in sums_met(small, moduli, weights)])


def both(one, other):
    """The question whose answer is that of one and twice that of other."""
    check_pair(one, other)
    first, second = least_of(one), least_of(other)
    moves = []
    for letter in range(one[0]):
        tables = [tuple([row[letter] for row in small[1]]) for small in (first, second)]
        moves.append(((0, tables[0]), (1, tables[1])))
    # The answers of both tell those of each, so no two pairs of states of least questions are alike.
    steps, pairs = numbered((0, 0), moves, MOST_STATES)
    return one[0], steps, tuple([first[2][state] + 2 * second[2][also] for state, also in pairs])


def either_kept(world, one, other):
    """Whether both of two questions can be kept."""
    check_world(world)
    check_pair(one, other)
    return is_kept(world, least_of(one)) and is_kept(world, least_of(other))


def summed(question):
    """The least question of one that can be kept in "inout", the world of sums."""
    check_question(question)
    small = least_of(question)
    if not is_kept("inout", small):
        raise NoKeeper("no sum of letter weights")
    return small


def check_pair(one, other):
    """Raise an error for two values that are not two questions of as many letters with answers 0 and 1."""
    check_alike(one, other)
    for question in (one, other):
        if max(question[2]) > 1:
            raise BadQuestion("answers")


def weights_of(small):
    """The moduli, each dividing the next one, and for each letter the remainders of its weight."""
    numbers, base = plain_form(relations_of(small))
    kept = [place for place, number in enumerate(numbers) if number > 1]
    moduli = tuple([numbers[place] for place in kept])
    return moduli, tuple([tuple([row[place] % numbers[place] for place in kept]) for row in base])


def relations_of(small):
    """Rows of how many there are of each letter, of which all rows that lead back to state 0 are whole-number sums."""
    letters, steps, _ = small
    # For each state that the letters so far lead to, how many of each did.
    counts = {0: [0] * letters}
    rows = []
    for letter in range(letters):
        state = steps[0][letter]
        times = 1
        while state not in counts:
            state = steps[state][letter]
            times += 1
        rows.append([times * int(place == letter) - many for place, many in enumerate(counts[state])])
        counts = counts_with(steps, counts, letter, times)
    return rows


def counts_with(steps, counts, letter, times):
    """The counts of all states to which a letter leads, fewer than so many times, from those that have counts."""
    found = {}
    for state, row in counts.items():
        reached = state
        for many in range(times):
            found[reached] = row[:letter] + [many] + row[letter + 1:]
            reached = steps[reached][letter]
    return found


def sums_met(small, moduli, weights):
    """All pairs of a state and a sum that texts have."""
    met = [(0, (0,) * len(moduli))]
    known = {met[0]: True}
    done = 0
    while done < len(met):
        state, total = met[done]
        for letter, weight in enumerate(weights):
            added = [(total[place] + part) % moduli[place] for place, part in enumerate(weight)]
            pair = (small[1][state][letter], tuple(added))
            if pair not in known:
                known[pair] = True
                met.append(pair)
        done += 1
    return met


def are_moduli(value, many):
    """Whether a value is a tuple of integers above 1, each dividing the next one, that let so many sums."""
    if not isinstance(value, tuple):
        return False
    before = 1
    let = 1
    for modulus in value:
        if not is_number(modulus, 2, many) or modulus % before != 0 or let > many:
            return False
        before = modulus
        let *= modulus
    return let == many


def is_sum(value, moduli):
    """Whether a value is a tuple of a remainder for each modulus."""
    if not isinstance(value, tuple) or len(value) != len(moduli):
        return False
    return all([is_number(part, 0, modulus - 1) for part, modulus in zip(value, moduli)])

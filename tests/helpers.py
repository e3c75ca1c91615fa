"""What the tests share: the errors of calls, wrong values, and slow answers by the document's words."""

import itertools
import random

from toldwhat.errors import KeeperError
from toldwhat.questions import least

EVEN = (2, ((1, 0), (0, 1)), (1, 0))
SOME = (2, ((1, 0), (1, 1)), (0, 1))
LAST = (2, ((0, 1), (0, 1)), (0, 1))
ONLY = (1, ((0,),), (2,))
THREE = (3, ((0, 1, 2), (1, 2, 0), (2, 0, 1)), (0, 1, 2))

WORLDS = ("end", "ends", "stack", "deque", "in", "inout", "relabel", "reverse")
PLACED = ("in", "inout")


def nested(kind, depth):
    """A value of so many tuples or lists, each in the next one."""
    value = 0
    for _ in range(depth):
        value = (value,) if kind == "tuple" else [value]
    return value


DEEP = nested("tuple", 20000)
DEEP_LIST = nested("list", 20000)

# Values that are not allowed for any argument but a number or a world.
NEVER = (
    None, True, False, -1, 0, 1, 2, 3, 4, 61, 10 ** 5000, -10 ** 5000, "", "put", "end", "question",
    [], [0], [2, ((1, 0), (0, 1)), (1, 0)], {}, {0: 1}, {"end": ()}, DEEP_LIST,
)

NOT_WORLDS = (
    None, True, False, 0, 1, "", "End", "END", " end", "end ", "move", "cut", "flip", "turned", "put", "en",
    ("end",), ["end"], {"end": 1}, (), [], {}, DEEP, DEEP_LIST, 10 ** 5000,
)

NOT_LETTERS = (
    None, True, False, 0, 4, -1, -2, 10 ** 5000, -10 ** 5000, "", "1", "a", (), (1,), [], [1], {}, {1: 1},
    DEEP, DEEP_LIST,
)

NOT_QUESTIONS = NEVER + ((), (2,), EVEN[:2], EVEN + (0,), (EVEN,), DEEP)

NOT_STEPS = NEVER + (
    (), ((1, 0),) * 41, ((2, 0), (0, 1)), ((1, 0), (0, 2)), ((1, 0), (0, -1)), ((1, 0), (0, 10 ** 5000)),
    ((1, 0), (0,)), ((1, 0), (0, 1, 0)), ((1, 0), ()), ((1, 0), [0, 1]), [(1, 0), (0, 1)], ((1, 0), "01"),
    ((1, 0), (0, True)), ((False, 0), (0, 1)), ((1, 0), (0, None)), ((1, 0), (0, "1")), ((1, 0), (0, (1,))),
    ((1, 0), None), ((1, 0), 0), ((1, 0), {0: 0, 1: 1}), (1, 0), DEEP, ((1, 0), DEEP), ((1, 0), (0, DEEP)),
    ((1, 0), (0, DEEP_LIST)), {(1, 0): (0, 1)},
)

NOT_ANSWERS = NEVER + (
    (), (1,), (1, 0, 0), (1, 4), (4, 1), (1, -1), (1, 10 ** 5000), (1, -10 ** 5000), (True, 0), (1, False), (1, None),
    (1, "0"), "10", [1, 0], {1: 0, 0: 1}, ((1,), (0,)), (1, (0,)), DEEP, (DEEP, 1), (1, DEEP_LIST),
)


# All values that are no question, with the part that is named.
WRONG_QUESTIONS = (
    tuple((value, "question") for value in NOT_QUESTIONS)
    + tuple(((value, EVEN[1], EVEN[2]), "letters") for value in NOT_LETTERS)
    + tuple(((2, value, EVEN[2]), "steps") for value in NOT_STEPS)
    + tuple(((2, EVEN[1], value), "answers") for value in NOT_ANSWERS)
    + (((1, ((0,),) * 41, (0,) * 41), "steps"), ((3, EVEN[1], EVEN[2]), "steps"), ((2, (), ()), "steps"))
)

# A keeper of two messages, values that are none at all, and such of which a state is wrong, with its number.
KEPT = (((1, 0), (0, 1)), (1, 0))

NOT_KEEPERS = NEVER + (
    (), (KEPT[0],), KEPT + (0,), (KEPT,), ((), ()), (KEPT[0], ()), (KEPT[0], (1,)), (KEPT[0], (1, 0, 0)), ((), (1, 0)),
    ([(1, 0), (0, 1)], (1, 0)), (KEPT[0], [1, 0]), [KEPT[0], KEPT[1]], (KEPT[0], None), (None, KEPT[1]), (0, 0),
    (KEPT[0], {0: 1, 1: 0}), ({0: (1, 0), 1: (0, 1)}, (1, 0)), (KEPT[0], "10"), ("10", (1, 0)), "ab", DEEP,
    (DEEP, KEPT[1]), (KEPT[0], DEEP), (((0, 0),) * 3001, (0,) * 3001), (True, True), ((9, 9, 9), (9, 9)),
)

WRONG_KEEPERS = tuple((value, None) for value in NOT_KEEPERS) + (
    (((None, None)), None), (((None,), (None,)), 0), ((((0, 0),), (4,)), 0), ((((0, 1),), (0,)), 0),
    ((((1, 0), (0, 2)), (1, 0)), 1), ((((2, 0), (0, 1)), (1, 0)), 0), ((((1, 0), (0, -1)), (1, 0)), 1),
    ((((1, 0), (0, 10 ** 5000)), (1, 0)), 1), ((((1, 0), (0,)), (1, 0)), 1), ((((1, 0), (0, 1, 0)), (1, 0)), 1),
    ((((1, 0), ()), (1, 0)), 1), ((((1, 0), [0, 1]), (1, 0)), 1), ((([1, 0], (0, 1)), (1, 0)), 0),
    ((((1, 0), "01"), (1, 0)), 1), ((((1, 0), (0, True)), (1, 0)), 1), ((((True, 0), (0, 1)), (1, 0)), 0),
    ((((1, False), (0, 1)), (1, 0)), 0), ((((1, 0), (0, None)), (1, 0)), 1), ((((1, 0), (0, "1")), (1, 0)), 1),
    ((((1, 0), None), (1, 0)), 1), ((((1, 0), 0), (1, 0)), 1), ((((1, 0), {0: 0, 1: 1}), (1, 0)), 1),
    ((((1, 0), (0, (1,))), (1, 0)), 1), ((((1, 0), (0, DEEP)), (1, 0)), 1), ((((1, 0), DEEP_LIST), (1, 0)), 1),
    (((DEEP, (0, 1)), (1, 0)), 0), ((DEEP, (0,)), 0), (((1, 0), (1, 0)), 0),
    ((KEPT[0], (1, 4)), 1), ((KEPT[0], (4, 1)), 0), ((KEPT[0], (1, -1)), 1), ((KEPT[0], (True, 0)), 0),
    ((KEPT[0], (1, False)), 1), ((KEPT[0], (1, None)), 1), ((KEPT[0], (1, "0")), 1), ((KEPT[0], ("1", 0)), 0),
    ((KEPT[0], (1, [0])), 1), ((KEPT[0], ({}, 0)), 0), ((KEPT[0], (1, DEEP)), 1), ((KEPT[0], (10 ** 5000, 0)), 0),
    # The first state of which one of both is wrong.
    ((((1, 0), (0, 2)), (4, 0)), 0), ((((2, 0), (0, 1)), (1, 4)), 0), ((((1, 0), (0, 2)), (1, 4)), 1),
    ((((1, 0), (0, 1), (0, 0), (0, 9)), (1, 0, 7, 0)), 2), ((((1, 0), (0, 1), (0, 9), (0, 0)), (1, 0, 0, 7)), 2),
)


def error_of(call, *arguments):
    """The name and the fields of the error that a call raises; None if it raises none."""
    try:
        call(*arguments)
    except KeeperError as error:
        return type(error).__name__, vars(error)
    return None


def bad(name, **fields):
    """An error as error_of tells it."""
    return name, fields


WRONG_WORLDS = tuple((value, bad("BadWorld")) for value in NOT_WORLDS)
WRONG_LETTERS = tuple((value, bad("BadNumber")) for value in NOT_LETTERS)


def check_arguments(test, call, good, wrong):
    """Check the errors of wrong values for each argument, whatever stands in the arguments behind it.

    Good arguments, and for each of them pairs of a wrong value and its error.
    """
    test.assertIsNone(error_of(call, *good))
    for at, pairs in enumerate(wrong):
        for number, (value, error) in enumerate(pairs):
            arguments = [*good[:at], value, *good[at + 1:]]
            test.assertEqual(error_of(call, *arguments), error, (call, at, number))
            for behind in range(at + 1, len(wrong)):
                later = wrong[behind]
                arguments[behind] = later[number % len(later)][0] if later else arguments[behind]
                test.assertEqual(error_of(call, *arguments), error, (call, at, number, behind))


def short_texts(letters, longest):
    """All texts up to a length, by length and then as tuples compare."""
    for length in range(longest + 1):
        yield from itertools.product(range(letters), repeat=length)


def walked(question, text, state=0):
    """The state to which a text leads, letter by letter."""
    rest = list(text)
    while rest:
        state = question[1][state][rest.pop(0)]
    return state


def slow_answer(question, text):
    """The answer for a text."""
    return question[2][walked(question, text)]


def slow_least(question):
    """The least question: texts are of one state if nothing put behind both parts them."""
    letters = question[0]
    many = len(question[1])
    tails = list(short_texts(letters, many))

    def sign(text):
        return tuple(slow_answer(question, text + tail) for tail in tails)

    # Texts that lead to all states come by length and letters, as states are numbered.
    numbers, firsts = {}, []
    for text in short_texts(letters, many):
        if sign(text) not in numbers:
            numbers[sign(text)] = len(firsts)
            firsts.append(text)
    steps = tuple(tuple(numbers[sign(text + (letter,))] for letter in range(letters)) for text in firsts)
    return letters, steps, tuple(slow_answer(question, text) for text in firsts)


def small_of(question):
    """The least question: by slow_least where that ends, else by the program, as other tests check it."""
    many = sum(question[0] ** length for length in range(len(question[1]) + 1))
    return slow_least(question) if many < 200 else least(question)


def slow_map(small, text):
    """The map of a text in a question that is least."""
    return tuple(walked(small, text, state) for state in range(len(small[1])))


def slow_maps(question):
    """The maps of all texts, of longer and longer ones until a length brings no new one."""
    small = slow_least(question)
    found, length = set(), 0
    while True:
        new = {slow_map(small, text) for text in itertools.product(range(small[0]), repeat=length)} - found
        if not new:
            return tuple(sorted(found))
        found |= new
        length += 1


def all_questions(letters, many, answers=2):
    """All questions of so many letters and states with answers below a number."""
    rows = list(itertools.product(range(many), repeat=letters))
    for steps in itertools.product(rows, repeat=many):
        for told in itertools.product(range(answers), repeat=many):
            yield letters, steps, told


def any_question(chance, letters, many, answers=2):
    """A question at random."""
    steps = tuple(tuple(chance.randrange(many) for _ in range(letters)) for _ in range(many))
    return letters, steps, tuple(chance.randrange(answers) for _ in range(many))


def any_questions(seed, times):
    """Small questions at random."""
    chance = random.Random(seed)
    for _ in range(times):
        letters = chance.randint(1, 3)
        yield any_question(chance, letters, chance.randint(1, 5 if letters < 3 else 4), chance.randint(1, 4))


def ring(many, told=None):
    """The question of one letter that counts round so many states."""
    steps = tuple(((state + 1) % many,) for state in range(many))
    return 1, steps, told or (1,) + (0,) * (many - 1)


def put(world, letter, place):
    """The edit of a world that puts a letter behind a text of so many letters."""
    return ("put", letter, place) if world in PLACED else ("put", letter)


def puts(world, text):
    """Edits by which a text comes."""
    return tuple(put(world, letter, place) for place, letter in enumerate(text))


def slow_edit(text, edit):
    """Do an edit to a text as a list, by the document's words."""
    if edit[0] == "turn":
        text[:] = reversed(text) if len(edit) == 1 else [edit[1][letter] for letter in text]
    elif len(edit) == 3:
        text.insert(edit[2], edit[1]) if edit[0] == "put" else text.pop(edit[2])
    elif edit[0] in ("put", "front"):
        text.insert(len(text) if edit[0] == "put" else 0, edit[1])
    else:
        text.pop(-1 if edit[0] == "chop" else 0)


def done_edits(world, letters, text):
    """All edits that can be done to a text, by the document's words."""
    every = range(letters)
    found = [put(world, letter, len(text)) for letter in every]
    if world in ("ends", "deque"):
        found += [("front", letter) for letter in every]
    if world in ("stack", "deque"):
        found += [("chop", letter) for letter in text[-1:]]
    if world == "deque":
        found += [("behead", letter) for letter in text[:1]]
    if world in PLACED:
        found += [("put", letter, place) for letter in every for place in range(len(text))]
    if world == "inout":
        found += [("take", letter, place) for place, letter in enumerate(text)]
    if world == "relabel":
        found += [("turn", row) for row in itertools.permutations(every)]
    if world == "reverse":
        found.append(("turn",))
    return found


def any_edits(chance, world, letters, many):
    """Edits at random, at most so many, and the text behind them, which no more than 60 letters make."""
    text, edits = [], ()
    while len(edits) < many:
        every = done_edits(world, letters, text)
        if len(text) == 60:
            every = [edit for edit in every if edit[0] not in ("put", "front")]
        if not every:
            break
        edits += (chance.choice(every),)
        slow_edit(text, edits[-1])
    return edits, tuple(text)


def message_of(edit):
    """The message of an edit: itself without its place."""
    return edit[:2]


def slow_messages(world, letters):
    """All messages of a world: those of edits that can be done to a text with each letter at each end."""
    found = set()
    for text in itertools.product(range(letters), repeat=2):
        found |= {message_of(edit) for edit in done_edits(world, letters, list(text))}
    return sorted(found)


def slow_keep(world, letters, keeper, row):
    """What a keeper answers at first and behind each message, looked up one by one."""
    every = slow_messages(world, letters)
    states = [0]
    for message in row:
        states.append(keeper[0][states[-1]][every.index(message)])
    return tuple(keeper[1][state] for state in states)


def any_keeper(chance, world, letters, many, answers=2):
    """A keeper at random."""
    width = len(slow_messages(world, letters))
    steps = tuple(tuple(chance.randrange(many) for _ in range(width)) for _ in range(many))
    return steps, tuple(chance.randrange(answers) for _ in range(many))


def commutes(small):
    """Whether in a least question a then b leads from each state where b then a does."""
    return all(
        walked(small, pair, state) == walked(small, pair[::-1], state)
        for state in range(len(small[1])) for pair in itertools.product(range(small[0]), repeat=2)
    )


def parts(small):
    """Whether in a least question each letter leads unlike states to unlike states."""
    return all(
        small[1][one][letter] != small[1][other][letter]
        for letter in range(small[0]) for one, other in itertools.combinations(range(len(small[1])), 2)
    )


def slow_can_keep(world, question):
    """Whether some keeper is right, by the condition of each world."""
    small = small_of(question)
    if world in ("stack", "deque"):
        return parts(small)
    if world == "in":
        return commutes(small)
    if world == "inout":
        return commutes(small) and parts(small)
    return True


def group(moduli, weights, told):
    """The question of a sum of letter weights, modulo by modulo, its answers by the sum."""
    every = list(itertools.product(*[range(modulus) for modulus in moduli]))

    def behind(total, weight):
        return tuple((part + more) % modulus for part, more, modulus in zip(total, weight, moduli))

    steps = tuple(tuple(every.index(behind(total, weight)) for weight in weights) for total in every)
    return len(weights), steps, tuple(told(total) for total in every)


def shown(question, places):
    """The same question with its states in other places, state 0 in its own."""
    letters, steps, told = question
    order = sorted(range(len(steps)), key=lambda state: places[state])
    return (
        letters,
        tuple(tuple(places[after] for after in steps[state]) for state in order),
        tuple(told[state] for state in order),
    )


FURTHER = ("move", "cut", "flip", "turned")

NOT_FURTHER = tuple(value for value in NOT_WORLDS if value not in FURTHER) + WORLDS + ("Move", "moved", " cut", "turn")
WRONG_FURTHER = tuple((value, bad("BadWorld")) for value in NOT_FURTHER)

WRONG_STRINGS = tuple(
    (value, bad("BadString")) for value in NEVER + ((), ("put a",), DEEP) if not isinstance(value, str)
)


def slow_further_edit(text, edit):
    """Do an edit of a further world to a text as a list, by the document's words."""
    if edit[0] == "put":
        text.append(edit[1])
    elif edit[0] == "move":
        text.insert(edit[3], text.pop(edit[2]))
    elif edit[0] == "cut":
        for _ in range(edit[1]):
            text.append(text.pop(0))
    elif edit[0] == "flip":
        start, end = edit[1], edit[2] - 1
        while start < end:
            text[start], text[end] = text[end], text[start]
            start, end = start + 1, end - 1
    else:
        text[edit[3]] = edit[2]


def done_further_edits(world, letters, text):
    """All edits of a further world that can be done to a text, by the document's words."""
    many = len(text)
    found = [("put", letter) for letter in range(letters)]
    if world == "move":
        found += [("move", letter, i, j) for i, letter in enumerate(text) for j in range(many)]
    if world == "cut":
        found += [("cut", i) for i in range(many + 1)]
    if world == "flip":
        found += [("flip", i, j) for j in range(many + 1) for i in range(j + 1)]
    if world == "turned":
        found += [("change", a, b, i) for i, a in enumerate(text) for b in range(letters) if b != a]
    return found


def further_message_of(edit):
    """The message of an edit of a further world."""
    return edit[:{"put": 2, "move": 2, "cut": 1, "flip": 1, "change": 3}[edit[0]]]


def slow_further_messages(world, letters):
    """All messages of a further world: those of edits that can be done to texts of two letters."""
    found = set()
    for text in itertools.product(range(letters), repeat=2):
        found |= {further_message_of(edit) for edit in done_further_edits(world, letters, text)}
    return sorted(found)


def any_further_edits(chance, world, letters, many, longest=60):
    """Just so many edits of a further world at random, and the text behind them."""
    text, edits = [], ()
    while len(edits) < many:
        every = done_further_edits(world, letters, text)
        puts_alone = every[:letters]
        others = every[letters:]
        if len(text) == longest or others and chance.randrange(2):
            # With one letter nothing can be changed in "turned".
            if not others:
                break
            edits += (chance.choice(others),)
        else:
            edits += (chance.choice(puts_alone),)
        slow_further_edit(text, edits[-1])
    return edits, tuple(text)


def slow_states(keeper, every, row):
    """The states of a keeper at first and behind each message, looked up one by one."""
    states = [0]
    for message in row:
        states.append(keeper[0][states[-1]][every.index(message)])
    return states


def slow_lasting(small):
    """The states of a least question to which texts of as many letters as it has states, or more, lead."""
    many = len(small[1])
    # What longer texts lead to, shorter ones do: all of it comes by a length of twice as many.
    states, found = {0}, set()
    for length in range(2 * many + 1):
        if length >= many:
            found |= states
        states = {small[1][state][letter] for state in states for letter in range(small[0])}
    return found


def slow_can_keep_further(world, question):
    """Whether some keeper of a further world is right, by the document's condition."""
    small = small_of(question)
    if not commutes(small):
        return False
    return world != "turned" or all(
        small[1][one][letter] != small[1][other][letter]
        for letter in range(small[0]) for one, other in itertools.combinations(slow_lasting(small), 2)
    )


def any_commuting(chance, letters, many):
    """A question at random whose letters commute: counts, each up to a bound and then round, and their answers."""
    shapes = []
    while len(shapes) < letters:
        shapes.append((chance.randint(0, 3), chance.randint(1, 3)))
        if len(shapes) == letters:
            total = 1
            for tail, turn in shapes:
                total *= tail + turn
            if total > many:
                shapes = []
    every = list(itertools.product(*[range(tail + turn) for tail, turn in shapes]))

    def behind(counts, letter):
        tail, turn = shapes[letter]
        more = counts[letter] + 1
        return counts[:letter] + (more if more < tail + turn else tail,) + counts[letter + 1:]

    steps = tuple(tuple(every.index(behind(counts, letter)) for letter in range(letters)) for counts in every)
    return letters, steps, tuple(chance.randrange(2) for _ in every)


def any_tailed(chance, letters, short, moduli):
    """A question at random that asks for counts of texts of fewer letters than short, else for a sum of weights."""
    counts = [row for row in itertools.product(range(short), repeat=letters) if sum(row) < short]
    weights = [tuple(chance.randrange(modulus) for modulus in moduli) for _ in range(letters)]
    totals = list(itertools.product(*[range(modulus) for modulus in moduli]))
    every = [("counts", row) for row in counts] + [("sum", total) for total in totals]

    def weighed(row):
        return tuple(
            sum(many * weight[at] for many, weight in zip(row, weights)) % modulus for at, modulus in enumerate(moduli)
        )

    def behind(state, letter):
        kind, row = state
        if kind == "sum":
            return "sum", tuple((part + more) % modulus for part, more, modulus in zip(row, weights[letter], moduli))
        more = row[:letter] + (row[letter] + 1,) + row[letter + 1:]
        return ("counts", more) if sum(more) < short else ("sum", weighed(more))

    steps = tuple(tuple(every.index(behind(state, letter)) for letter in range(letters)) for state in every)
    return letters, steps, tuple(chance.randrange(2) for _ in every)


def any_further_keeper(chance, world, letters, many, answers=2):
    """A keeper of a further world at random."""
    width = len(slow_further_messages(world, letters))
    steps = tuple(tuple(chance.randrange(many) for _ in range(width)) for _ in range(many))
    return steps, tuple(chance.randrange(answers) for _ in range(many))


def any_text(chance, letters, many):
    """A text of so many letters at random."""
    return tuple(chance.randrange(letters) for _ in range(many))


VOID = ("void",)

# Values that are no ask over two letters.
NOT_ASKS = NEVER + (
    (), ("begins",), ("begins", ()), ("begins", (2,)), ("begins", (-1,)), ("begins", (0,) * 7), ("begins", 0),
    ("begins", [0]), ("begins", "a"), ("begins", (True,)), ("begins", (0, False)), ("begins", (None,)), ("begins", ("0",)),
    ("begins", (0,), 0), ("begins", None), ("begins", DEEP), ("begins", (DEEP,)), ("begins", {0: 0}), ("Begins", (0,)),
    ("ends",), ("ends", ()), ("ends", (2,)), ("ends", (0,) * 7), ("ends", 0), ("ends", (0,), (1,)), ("end", (0,)),
    ("holds",), ("holds", ()), ("holds", (0, 2)), ("holds", (0,) * 7), ("holds", (10 ** 5000,)), ("holds", True),
    ("repeats",), ("repeats", ()), ("repeats", (0, 3)), ("repeats", (0,) * 7), ("repeats", (0,), 2),
    ("least",), ("least", 1), ("least", 0, 0), ("least", 7, 0), ("least", -1, 0), ("least", 1, 2), ("least", 1, -1),
    ("least", True, 0), ("least", 1, False), ("least", None, 0), ("least", 1, None), ("least", "1", 0), ("least", 1, "a"),
    ("least", 10 ** 5000, 0), ("least", 1, 10 ** 5000), ("least", 1, 0, 0), ("least", (1,), 0), ("least", 1, (0,)),
    ("least", DEEP, 0), ("least", 1, DEEP_LIST),
    ("sum",), ("sum", (0, 1), 2), ("sum", (0, 1), 2, 2), ("sum", (0, 1), 2, -1), ("sum", (0, 2), 2, 0),
    ("sum", (-1, 0), 2, 0), ("sum", (0,), 2, 0), ("sum", (0, 1, 1), 2, 0), ("sum", (0, 0), 1, 0), ("sum", (0, 0), 9, 0),
    ("sum", (0, 0), 0, 0), ("sum", (0, 8), 9, 0), ("sum", [0, 1], 2, 0), ("sum", (0, True), 2, 0), ("sum", (0, 1), 2, True),
    ("sum", (0, 1), True, 0), ("sum", (0, 1), None, 0), ("sum", None, 2, 0), ("sum", (0, 1), 2, None), ("sum", 0, 2, 0),
    ("sum", (0, 1), 2, 0, 0), ("sum", (0, 1), "2", 0), ("sum", (0, 10 ** 5000), 2, 0), ("sum", (0, 1), 10 ** 5000, 0),
    ("sum", (0, 1), 2, 10 ** 5000), ("sum", DEEP, 2, 0), ("sum", (0, DEEP), 2, 0), ("sum", (0, 1), DEEP, 0),
    ("sum", ((0, 1), 2, 0)), ("void", 0), ("void", VOID), ("void", ()), ("Void",), ["void"], [VOID], "void", (VOID,),
    ("not",), ("not", VOID, VOID), ("not", None), ("not", "void"), ("not", ["void"]), ("not", ()), ("not", ("not",)),
    ("not", DEEP), ("not", DEEP_LIST), ("not", ("begins", ())), ("not", True),
    ("and",), ("and", VOID), ("and", VOID, VOID, VOID), ("and", VOID, None), ("and", None, VOID), ("and", DEEP, VOID),
    ("and", VOID, ("least", 0, 0)), ("and", (VOID, VOID)), ("and", VOID, [VOID]), ("and", "void", "void"),
    ("or",), ("or", VOID), ("or", VOID, VOID, VOID), ("or", VOID, ("ends", (2,))), ("or", {}, VOID), ("or", VOID, DEEP_LIST),
    ("xor", VOID, VOID), ("nor", VOID), (None,), (0,), (True,), ((),), ([],), ({},), (DEEP,), (DEEP_LIST, VOID), DEEP,
    {"void": 0}, {0: "void"}, ("void", None), (VOID, VOID), (10 ** 5000,),
)
WRONG_ASKS = tuple((value, bad("BadAsk")) for value in NOT_ASKS)


def any_plain(chance, letters):
    """A plain ask at random."""
    word = chance.choice(("begins", "ends", "holds", "repeats", "least", "sum", "void"))
    if word == "void":
        return VOID
    if word == "least":
        return "least", chance.randint(1, 6), chance.randrange(letters)
    if word == "sum":
        modulus = chance.randint(2, 8)
        return "sum", tuple(chance.randrange(modulus) for _ in range(letters)), modulus, chance.randrange(modulus)
    return word, any_text(chance, letters, chance.randint(1, 6))


def any_ask(chance, letters, depth):
    """An ask at random, at most so many within one another."""
    word = chance.choice(("plain", "not", "and", "or"))
    if depth == 1 or word == "plain":
        return any_plain(chance, letters)
    if word == "not":
        return "not", any_ask(chance, letters, depth - 1)
    return word, any_ask(chance, letters, depth - 1), any_ask(chance, letters, depth - 1)


def depth_of(ask):
    """How many asks are within one another, the outermost counted."""
    return 1 + max([0] + [depth_of(part) for part in ask[1:]]) if ask[0] in ("not", "and", "or") else 1


def plains_in(ask):
    """How many plain asks stand in an ask."""
    return sum(plains_in(part) for part in ask[1:]) if ask[0] in ("not", "and", "or") else 1


def nots(many, ask):
    """An ask within so many nots."""
    for _ in range(many):
        ask = ("not", ask)
    return ask


def joined(word, plains):
    """All of these asks joined by a word, two by two."""
    if len(plains) == 1:
        return plains[0]
    half = (len(plains) + 1) // 2
    return word, joined(word, plains[:half]), joined(word, plains[half:])


def plain_asks(letters):
    """Plain asks of all kinds, many of each."""
    every = range(letters)
    words = [word for word in short_texts(letters, 3) if word] + [(0,) * 6, tuple(at % letters for at in range(6))]
    for word in words:
        for kind in ("begins", "ends", "holds", "repeats"):
            yield kind, word
    yield from (("least", many, letter) for many in range(1, 7) for letter in every)
    for modulus in range(2, 9):
        for rest in {0, 1, modulus - 1}:
            yield "sum", tuple((letter + 1) % modulus for letter in every), modulus, rest
            yield "sum", (modulus - 1,) * letters, modulus, rest
            yield "sum", (0,) * letters, modulus, rest
    yield VOID


def is_text(value, letters):
    """Whether a value is a text, by kinds and numbers alone."""
    return type(value) is tuple and all(type(letter) is int and 0 <= letter < letters for letter in value)


def changed(value, chance, letters):
    """A reason with one part changed."""
    at = chance.randrange(1, 5)
    part = value[at]
    if type(part) is int:
        return value[:at] + (chance.randrange(letters),) + value[at + 1:]
    texts = [part + (chance.randrange(letters),), part[1:], part[:-1], tuple(chance.randrange(letters) for _ in part)]
    return value[:at] + (chance.choice(texts),) + value[at + 1:]

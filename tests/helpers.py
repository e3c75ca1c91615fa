"""What the tests share: the errors of calls, wrong values, and slow answers by the document's words."""

import itertools
import random

from toldwhat.errors import KeeperError

EVEN = (2, ((1, 0), (0, 1)), (1, 0))
SOME = (2, ((1, 0), (1, 1)), (0, 1))
LAST = (2, ((0, 1), (0, 1)), (0, 1))
ONLY = (1, ((0,),), (2,))
THREE = (3, ((0, 1, 2), (1, 2, 0), (2, 0, 1)), (0, 1, 2))

WORLDS = ("end", "ends", "stack", "deque", "in", "inout", "relabel", "reverse")


def nested(kind, depth):
    """A value of so many tuples or lists, each in the next one."""
    value = 0
    for _ in range(depth):
        value = (value,) if kind == "tuple" else [value]
    return value


DEEP = nested("tuple", 20000)
DEEP_LIST = nested("list", 20000)

# Values that are not allowed for any argument but a number or a world.
NEVER = (
    None, True, False, -1, 0, 1, 2, 3, 4, 61, 10 ** 5000, -10 ** 5000, "", "put", "end", "question",
    [], [0], [2, ((1, 0), (0, 1)), (1, 0)], {}, {0: 1}, {"end": ()}, DEEP_LIST,
)

NOT_WORLDS = (
    None, True, False, 0, 1, "", "End", "END", " end", "end ", "move", "cut", "flip", "turned", "put", "en",
    ("end",), ["end"], {"end": 1}, (), [], {}, DEEP, DEEP_LIST, 10 ** 5000,
)

NOT_LETTERS = (
    None, True, False, 0, 4, -1, -2, 10 ** 5000, -10 ** 5000, "", "1", "a", (), (1,), [], [1], {}, {1: 1},
    DEEP, DEEP_LIST,
)


def error_of(call, *arguments):
    """The name and the fields of the error that a call raises; None if it raises none."""
    try:
        call(*arguments)
    except KeeperError as error:
        return type(error).__name__, vars(error)
    return None


def short_texts(letters, longest):
    """All texts up to a length, by length and then as tuples compare."""
    for length in range(longest + 1):
        yield from itertools.product(range(letters), repeat=length)


def walked(question, text, state=0):
    """The state to which a text leads, letter by letter."""
    rest = list(text)
    while rest:
        state = question[1][state][rest.pop(0)]
    return state


def slow_answer(question, text):
    """The answer for a text."""
    return question[2][walked(question, text)]


def slow_least(question):
    """The least question: texts are of one state if nothing put behind both parts them."""
    letters = question[0]
    many = len(question[1])
    tails = list(short_texts(letters, many))

    def sign(text):
        return tuple(slow_answer(question, text + tail) for tail in tails)

    # Texts that lead to all states come by length and letters, as states are numbered.
    numbers, firsts = {}, []
    for text in short_texts(letters, many):
        if sign(text) not in numbers:
            numbers[sign(text)] = len(firsts)
            firsts.append(text)
    steps = tuple(tuple(numbers[sign(text + (letter,))] for letter in range(letters)) for text in firsts)
    return letters, steps, tuple(slow_answer(question, text) for text in firsts)


def slow_map(small, text):
    """The map of a text in a question that is least."""
    return tuple(walked(small, text, state) for state in range(len(small[1])))


def slow_maps(question):
    """The maps of all texts, of longer and longer ones until a length brings no new one."""
    small = slow_least(question)
    found, length = set(), 0
    while True:
        new = {slow_map(small, text) for text in itertools.product(range(small[0]), repeat=length)} - found
        if not new:
            return tuple(sorted(found))
        found |= new
        length += 1


def all_questions(letters, many, answers=2):
    """All questions of so many letters and states with answers below a number."""
    rows = list(itertools.product(range(many), repeat=letters))
    for steps in itertools.product(rows, repeat=many):
        for told in itertools.product(range(answers), repeat=many):
            yield letters, steps, told


def any_question(chance, letters, many, answers=2):
    """A question at random."""
    steps = tuple(tuple(chance.randrange(many) for _ in range(letters)) for _ in range(many))
    return letters, steps, tuple(chance.randrange(answers) for _ in range(many))


def any_questions(seed, times):
    """Small questions at random."""
    chance = random.Random(seed)
    for _ in range(times):
        letters = chance.randint(1, 3)
        yield any_question(chance, letters, chance.randint(1, 5 if letters < 3 else 4), chance.randint(1, 4))


def ring(many, told=None):
    """The question of one letter that counts round so many states."""
    steps = tuple(((state + 1) % many,) for state in range(many))
    return 1, steps, told or (1,) + (0,) * (many - 1)

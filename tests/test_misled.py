import copy
import itertools
import random
import unittest

from helpers import (
    DEEP, DEEP_LIST, EVEN, FURTHER, LAST, NEVER, ONLY, SOME, THREE, WRONG_FURTHER, WRONG_KEEPERS, WRONG_LETTERS,
    WRONG_QUESTIONS, all_questions, any_commuting, any_further_edits, any_further_keeper, any_question, any_questions,
    any_tailed, bad, changed, check_arguments, done_further_edits, error_of, further_message_of, is_text, puts, ring,
    short_texts, slow_answer, slow_can_keep_further, slow_further_edit, slow_further_messages, slow_states, small_of,
    walked,
)
from toldwhat import misled
from toldwhat.errors import TooMany
from toldwhat.further import can_keep_further, further_keeper
from toldwhat.misled import further_reason, keep_further, mislead, shows_further_reason, shows_misled
from toldwhat.questions import least

# Are there so many of letter 1? How many letters there are does not tell.
TWO = (2, ((0, 1), (1, 2), (2, 2)), (0, 0, 1))

# A keeper of two letters in "turned" and "move", who always answers the same; and one in "cut" and "flip".
IDLE = (((0, 0, 0, 0),), (0,))
STILL = (((0, 0, 0),), (0,))

NOT_ROWS = (
    None, True, False, 0, 1, -1, 10 ** 5000, "", "put", [], [("put", 0)], {}, {("put", 0): 0}, DEEP_LIST,
    (("put", 0),) * 101, (None,) * 101, (("put", 0),) * 1000,
)

# Messages of no further world, of two letters.
NOT_MESSAGES = NEVER + (
    (), ("put",), ("put", 2), ("put", -1), ("put", True), ("put", False), ("put", None), ("put", "0"), ("put", (0,)),
    ("put", [0]), ["put", 0], ("put", 10 ** 5000), ("put", DEEP), ("put", 0, 0), ("Put", 0), (0, "put"), (DEEP, 0),
    ("move",), ("move", 2), ("move", True), ("move", 0, 0), ("move", 0, 0, 1), ("move", None), ("cut", 0), ("cut", None),
    ("flip", 0, 0), ("flip", 0), ("flip", ()), ("change",), ("change", 0), ("change", 0, 0), ("change", 1, 1),
    ("change", 0, 2), ("change", 0, -1), ("change", True, 0), ("change", 0, True), ("change", 0, 1, 0), ("change", 0, None),
    ("change", DEEP, 0), ("change", (0, 1)), ("turn",), ("turn", (0, 1)), ("take", 0), ("chop", 0), ("front", 0), DEEP,
    (("put", 0),), (("cut",),), ["cut"], {"cut": 0}, ([], 0), ({}, 0), (DEEP_LIST,), (None,), (True,),
)

# Values that no function returns as a reason or as edits.
NOTHING = NEVER[1:] + (
    DEEP, (DEEP,), (DEEP_LIST,), (None,), ("order",), ("merge",), ("order", None, None, None, None), (0, 1, 2, 3, 4),
    ("order", (), 0, 1), ("merge", (), (0,), 0), ("order", DEEP, 0, 1, ()), ("order", (), DEEP, 1, DEEP),
    ("merge", DEEP, DEEP_LIST, {}, DEEP), ("order", (DEEP,), 0, 1, (DEEP_LIST,)), ((), (), (), (), ()),
    ("order", (10 ** 5000,), 10 ** 5000, -10 ** 5000, ()), ("merge", (0,) * 9, (0,) * 9, 10 ** 5000, ()), ["put", 0],
    [("put", 0)], (["put", 0],), (("put",),), (("put", 2),), (("put", 0, 1),), (("put", True),), (("put", DEEP),),
    {("put", 0): 0}, ("put", 0), (("cut",),), (("cut", -1),), (("cut", 1),), (("flip", 0, 1),), (("move", 0, 0, 0),),
    (("change", 0, 1, 0),), (("put", 0), ("change", 0, 1)), (("put", 0), ("flip", False, 1)), (("cut", True),),
    (("put", 0),) * 61, (("cut", 0),) * 101, (("put", DEEP_LIST),), (("cut", DEEP),), ((DEEP,),), (((),),),
)


def slow_shows(world, question, value):
    """Whether a value is a reason, by the document's words."""
    letters, small = question[0], small_of(question)
    if type(value) is not tuple or len(value) != 5:
        return False
    if value[0] == "order":
        _, u, a, b, v = value
        if not all(is_text(text, letters) for text in (u, (a,), (b,), v)) or len(u) + len(v) + 2 > 160:
            return False
        return slow_answer(question, u + (a, b) + v) != slow_answer(question, u + (b, a) + v)
    if value[0] == "merge" and world == "turned":
        _, u, w, a, v = value
        if not all(is_text(text, letters) for text in (u, w, (a,), v)) or len(v) > 160:
            return False
        if not all(len(small[1]) <= len(text) <= 80 for text in (u, w)):
            return False
        return walked(small, u + (a,)) == walked(small, w + (a,)) and slow_answer(question, u + v) != slow_answer(question, w + v)
    return False


def slow_misled(world, question, man, value):
    """Whether a value is edits at whose end a keeper answers wrong, edit by edit."""
    if type(value) is not tuple or len(value) > 100:
        return False
    text = []
    for edit in value:
        if type(edit) is not tuple or any(type(part) is bool for part in edit):
            return False
        if edit not in done_further_edits(world, question[0], text):
            return False
        slow_further_edit(text, edit)
        if len(text) > 60:
            return False
    row = [further_message_of(edit) for edit in value]
    state = slow_states(man, slow_further_messages(world, question[0]), row)[-1]
    return man[1][state] != slow_answer(question, text)


def unkept(questions):
    """All pairs of a further world and a question without a right keeper there."""
    for question in questions:
        for world in FURTHER:
            if not slow_can_keep_further(world, question):
                yield world, question


def some_questions(seed):
    """Small questions of one to three letters, most without a right keeper in some world."""
    chance = random.Random(seed)
    yield from (SOME, LAST, EVEN, THREE, TWO, ONLY)
    for letters, many, times in ((1, 4, 3), (2, 2, 8), (2, 3, 12), (2, 4, 8), (3, 2, 8), (3, 3, 6)):
        for _ in range(times):
            yield any_question(chance, letters, many, chance.randint(2, 4))
    for letters in (2, 3):
        for _ in range(12):
            yield any_commuting(chance, letters, 12)


def idle(world, letters, told=0):
    """A keeper who always answers the same."""
    return ((0,) * len(slow_further_messages(world, letters)),), (told,)


def knowing(world, question, depth):
    """A keeper who knows what can be told of texts of so many letters, and stays as he is with longer ones."""
    texts = sorted({tuple(sorted(text)) for text in short_texts(question[0], depth)}, key=lambda text: (len(text), text))
    steps = []
    for text in texts:
        row = []
        for message in slow_further_messages(world, question[0]):
            reached = text
            if message[0] == "put":
                reached = tuple(sorted(text + message[1:]))
            elif message[0] == "change" and message[1] in text:
                place = text.index(message[1])
                reached = tuple(sorted(text[:place] + message[2:] + text[place + 1:]))
            row.append(texts.index(reached) if reached in texts else texts.index(text))
        steps.append(tuple(row))
    return tuple(steps), tuple(slow_answer(question, text) for text in texts)


def rounds(world, letters, tail, turn, answers):
    """A keeper who counts the letters that are put, up to a number and then round."""
    many = tail + turn
    every = slow_further_messages(world, letters)
    steps = tuple(
        tuple((state + 1 if state + 1 < many else tail) if message[0] == "put" else state for message in every)
        for state in range(many)
    )
    return steps, tuple(answers[state % len(answers)] for state in range(many))


class TestInterface(unittest.TestCase):
    def test_example(self):
        last, still = (2, ((1, 0), (1, 0)), (0, 1)), (((0, 0, 0),), (0,))
        found = [
            further_reason("cut", last)[0], shows_misled("cut", last, still, mislead("cut", last, still)),
            keep_further("cut", 2, still, (("cut",), ("put", 1))),
        ]
        self.assertEqual(found, ["order", True, (0, 0, 0)])

    def test_defined_here(self):
        for name in ("keep_further", "further_reason", "shows_further_reason", "mislead", "shows_misled"):
            self.assertEqual(getattr(misled, name).__module__, "toldwhat.misled")

    def test_names_of_arguments(self):
        self.assertEqual(keep_further(world="cut", letters=2, keeper=STILL, row=()), (0,))
        self.assertIsNone(further_reason(world="cut", question=SOME))
        self.assertIs(shows_further_reason(world="cut", question=SOME, value=None), True)
        found = mislead(world="cut", question=LAST, keeper=STILL)
        self.assertIs(shows_misled(world="cut", question=LAST, keeper=STILL, value=found), True)


class TestKeep(unittest.TestCase):
    def test_any_keepers(self):
        chance = random.Random(1)
        for world, letters, _ in itertools.product(FURTHER, (1, 2, 3), range(5)):
            man = any_further_keeper(chance, world, letters, chance.randint(1, 6), 4)
            every = slow_further_messages(world, letters)
            for length in (0, 1, 2, chance.randint(3, 99), 100):
                row = tuple(chance.choice(every) for _ in range(length))
                expected = tuple(man[1][state] for state in slow_states(man, every, row))
                self.assertEqual(keep_further(world, letters, man, row), expected)

    def test_lengths(self):
        for world in FURTHER:
            man = rounds(world, 2, 0, 2, (1, 0))
            for many in (0, 1, 99, 100):
                expected = tuple(1 - at % 2 for at in range(many + 1))
                self.assertEqual(keep_further(world, 2, man, (("put", 0),) * many), expected)
            for many in (101, 102, 1000):
                self.assertEqual(error_of(keep_further, world, 2, man, (("put", 0),) * many), bad("BadMessages", index=None))
                self.assertEqual(error_of(keep_further, world, 2, man, (None,) * many), bad("BadMessages", index=None))
            self.assertEqual(error_of(keep_further, world, 2, man, (("put", 0),) * 99 + (None,)), bad("BadMessages", index=99))

    def test_messages_that_no_edits_have(self):
        # Whether edits can have them isn't asked.
        man = rounds("turned", 2, 0, 2, (1, 0))
        self.assertEqual(keep_further("turned", 2, man, (("change", 0, 1), ("change", 1, 0))), (1, 1, 1))
        self.assertEqual(keep_further("move", 2, IDLE, (("move", 1), ("move", 0))), (0, 0, 0))

    def test_each_message_in_its_place(self):
        for world, letters in itertools.product(FURTHER, (1, 2, 3)):
            every = slow_further_messages(world, letters)
            for at, message in enumerate(every):
                steps = (tuple(int(place == at) for place in range(len(every))), (1,) * len(every))
                for other in every:
                    found = keep_further(world, letters, (steps, (0, 3)), (other,))
                    self.assertEqual(found, (0, 3 if other == message else 0))

    def test_wrong_messages(self):
        for world in FURTHER:
            every = slow_further_messages(world, 2)
            for at, value in enumerate(NOT_MESSAGES):
                self.assertEqual(error_of(keep_further, world, 2, idle(world, 2), (value,)), bad("BadMessages", index=0), (world, at))
                row = (("put", 1), value, None)
                self.assertEqual(error_of(keep_further, world, 2, idle(world, 2), row), bad("BadMessages", index=1))
            for other in FURTHER:
                for message in slow_further_messages(other, 3):
                    expected = None if message in every else bad("BadMessages", index=0)
                    self.assertEqual(error_of(keep_further, world, 2, idle(world, 2), (message,)), expected)

    def test_keepers_of_other_worlds(self):
        for world, letters in itertools.product(FURTHER, (1, 2, 3)):
            width = len(slow_further_messages(world, letters))
            for many in range(12):
                expected = None if many == width else bad("BadKeeper", index=0)
                self.assertEqual(error_of(keep_further, world, letters, (((0,) * many,), (0,)), ()), expected)

    def test_right_keepers(self):
        chance = random.Random(2)
        for world, question in itertools.product(FURTHER, (EVEN, SOME, THREE)):
            if can_keep_further(world, question):
                man = further_keeper(world, question)
                edits, text = any_further_edits(chance, world, question[0], 40)
                found = keep_further(world, question[0], man, tuple(further_message_of(edit) for edit in edits))
                self.assertEqual([len(found), found[-1]], [41, slow_answer(question, text)])
                self.assertTrue(all(type(told) is int for told in found))


class TestReason(unittest.TestCase):
    def check(self, world, question):
        found = further_reason(world, question)
        if slow_can_keep_further(world, question):
            self.assertIsNone(found, (world, question))
        else:
            self.assertTrue(slow_shows(world, question, found), (world, question, found))
        self.assertIs(shows_further_reason(world, question, found), True, (world, question, found))
        self.assertIs(shows_further_reason(world, question, None), found is None, (world, question))

    def test_all_small(self):
        for letters, most in ((1, 3), (2, 2), (3, 1)):
            for many in range(1, most + 1):
                for question in all_questions(letters, many):
                    for world in FURTHER:
                        self.check(world, question)

    def test_any(self):
        chance = random.Random(3)
        more = [any_tailed(chance, 2, 3, (3,)) for _ in range(10)]
        for question in itertools.chain(some_questions(4), any_questions(5, 60), more):
            for world in FURTHER:
                self.check(world, question)

    def test_kinds_of_reason(self):
        words = {}
        for world, question in unkept(some_questions(6)):
            word = further_reason(world, question)[0]
            words.setdefault(world, set()).add(word)
        self.assertEqual(words, {"move": {"order"}, "cut": {"order"}, "flip": {"order"}, "turned": {"order", "merge"}})
        self.assertEqual(further_reason("turned", SOME)[0], "merge")
        self.assertEqual(further_reason("turned", TWO)[0], "merge")
        self.assertIsNone(further_reason("move", SOME))

    def test_all_short_values(self):
        texts = list(short_texts(2, 2))
        long = list(short_texts(2, 3))
        both = (2, ((1, 1), (0, 2), (2, 1)), (1, 0, 0))
        for world, question in itertools.product(FURTHER, (SOME, LAST, both)):
            for u, a, b, v in itertools.product(texts, range(2), range(2), texts):
                value = ("order", u, a, b, v)
                self.assertIs(shows_further_reason(world, question, value), slow_shows(world, question, value), (world, value))
            for u, w, a, v in itertools.product(long, long, range(2), texts[:3]):
                value = ("merge", u, w, a, v)
                self.assertIs(shows_further_reason(world, question, value), slow_shows(world, question, value), (world, value))

    def test_one_part_changed(self):
        chance = random.Random(7)
        refused = 0
        for world, question in unkept(some_questions(8)):
            found = further_reason(world, question)
            for _ in range(20):
                value = changed(found, chance, question[0])
                expected = slow_shows(world, question, value)
                refused += not expected
                self.assertIs(shows_further_reason(world, question, value), expected, (world, question, value))
        self.assertGreater(refused, 200)

    def test_parts_of_other_kinds(self):
        for world, question in unkept((SOME, LAST, TWO, any_question(random.Random(9), 3, 3))):
            found = further_reason(world, question)
            for at in range(5):
                for value in NEVER + (DEEP, (DEEP,), "order", "merge", (None,), (True,), (False,), (9,), (-1,), [0], ((0,),)):
                    if type(value) is int and value == found[at] or value in ("order", "merge") and at == 0:
                        continue
                    wrong = found[:at] + (value,) + found[at + 1:]
                    self.assertIs(shows_further_reason(world, question, wrong), slow_shows(world, question, wrong), (world, at))
            for wrong in (found[:4], found + ((),), list(found), (found,), {found[0]: found[1:]}):
                self.assertIs(shows_further_reason(world, question, wrong), False)

    def test_words_of_other_worlds(self):
        order, merge = ("order", (), 0, 1, ()), ("merge", (0, 0), (1, 1), 0, ())
        for world in FURTHER:
            self.assertIs(shows_further_reason(world, LAST, order), True)
            self.assertIs(shows_further_reason(world, LAST, merge), world == "turned")
            self.assertIs(shows_further_reason(world, LAST, ("Merge",) + merge[1:]), False)
            # What can be kept has none.
            for value in (order, merge):
                self.assertIs(shows_further_reason(world, EVEN, value), False)

    def test_booleans(self):
        self.assertIs(shows_further_reason("cut", LAST, ("order", (), False, True, ())), False)
        self.assertIs(shows_further_reason("cut", LAST, ("order", (), 0, True, ())), False)
        self.assertIs(shows_further_reason("cut", LAST, ("order", (True,), 0, 1, ())), False)
        self.assertIs(shows_further_reason("turned", LAST, ("merge", (0, False), (1, 1), 0, ())), False)
        self.assertIs(shows_further_reason("turned", LAST, ("merge", (0, 0), (1, 1), False, ())), False)

    def test_texts_of_too_few_letters(self):
        # Two states: so two letters or more.
        for one, other in itertools.product(range(5), repeat=2):
            value = ("merge", (1,) * one, (1,) * max(other - 1, 0) + (0,) * min(other, 1), 0, ())
            right = one >= 2 and other >= 2
            self.assertIs(shows_further_reason("turned", SOME, value), right, value)
            self.assertIs(slow_shows("turned", SOME, value), right)
        # Of the least question: how many states there are otherwise does not count.
        wide = (2, ((1, 2), (3, 1), (1, 4), (1, 3), (3, 2)), (0, 1, 0, 1, 0))
        self.assertEqual(least(wide), SOME)
        self.assertIs(shows_further_reason("turned", wide, ("merge", (1, 1), (1, 0), 0, ())), True)

    def test_texts_of_unlike_lengths(self):
        for one, other in ((2, 80), (80, 2), (80, 80), (3, 4)):
            self.assertIs(shows_further_reason("turned", SOME, ("merge", (1,) * one, (0,) * other, 0, ())), True)

    def test_eighty_letters(self):
        for many in (2, 79, 80, 81, 82, 160, 161, 10000):
            self.assertIs(shows_further_reason("turned", SOME, ("merge", (1,) * many, (0, 0), 0, ())), many <= 80)
            self.assertIs(shows_further_reason("turned", SOME, ("merge", (1, 1), (0,) * many, 0, ())), many <= 80)

    def test_hundred_and_sixty_letters(self):
        for many in (0, 1, 80, 81, 159, 160, 161, 10000):
            self.assertIs(shows_further_reason("turned", SOME, ("merge", (1, 1), (0, 0), 0, (1,) * many)), many <= 160)
            # All at once: 80, 80 and 160 of them.
            self.assertIs(shows_further_reason("turned", SOME, ("merge", (1,) * 80, (0,) * 80, 0, (1,) * many)), many <= 160)
        for many in (0, 1, 157, 158, 159, 160, 161, 10000):
            self.assertIs(shows_further_reason("flip", LAST, ("order", (0,) * many, 0, 1, ())), many <= 158)
        both = (2, ((1, 2), (1, 1), (2, 2)), (0, 1, 2))
        for one, other in ((79, 79), (79, 80), (80, 79), (0, 158), (0, 159)):
            value = ("order", (), 0, 1, (0,) * (one + other))
            self.assertIs(shows_further_reason("turned", both, value), one + other <= 158)

    def test_forty_states(self):
        chance = random.Random(10)
        tried = [ring(40), (1, tuple((min(state + 1, 39),) for state in range(40)), (0,) * 39 + (1,))]
        tried += [any_question(chance, letters, 40, 2) for letters in (1, 2, 3) for _ in range(3)]
        # A long way to the states that are merged, and a long one behind them.
        tried.append((2, tuple((min(state + 1, 39), state) for state in range(40)), (0,) * 39 + (1,)))
        tried.append((2, tuple((state, min(state + 1, 39)) for state in range(40)), (0,) * 39 + (1,)))
        tried.append((2, tuple(((state + 1) % 40, (state + 1) % 40 if state % 2 else state) for state in range(40)), (1,) + (0,) * 39))
        tried.append((2, tuple((min(state + 1, 39), max(state - 1, 0)) for state in range(40)), (1,) + (0,) * 39))
        for world, question in itertools.product(FURTHER, tried):
            self.check(world, question)


class TestMislead(unittest.TestCase):
    def check(self, world, question, man):
        try:
            found = mislead(world, question, man)
        except TooMany as error:
            self.assertEqual(error.most, 100)
            self.assertGreater(max(len(small_of(question)[1]), len(man[0])), 12, (world, question, man))
            return None
        self.assertTrue(slow_misled(world, question, man, found), (world, question, man, found))
        self.assertIs(shows_misled(world, question, man, found), True)
        return found

    def test_idle_keepers(self):
        for world, question in unkept(some_questions(11)):
            for told in range(4):
                self.check(world, question, idle(world, question[0], told))

    def test_any_keepers(self):
        chance = random.Random(12)
        for world, question in unkept(some_questions(13)):
            for many in (1, 2, 3, 5, 8, 12):
                self.check(world, question, any_further_keeper(chance, world, question[0], many))

    def test_knowing_keepers(self):
        for world, question in unkept(some_questions(14)):
            for depth in (1, 2, 3):
                self.check(world, question, knowing(world, question, depth))

    def test_right_keepers_of_other_questions(self):
        chance = random.Random(15)
        others = {letters: [any_commuting(chance, letters, 8) for _ in range(8)] for letters in (1, 2, 3)}
        for letters in (2, 3):
            others[letters] += [any_tailed(chance, letters, 2, (3,)) for _ in range(4)]
        for world, question in unkept(some_questions(16)):
            for other in others[question[0]]:
                if can_keep_further(world, other):
                    self.check(world, question, further_keeper(world, other))

    def test_keepers_of_puts_alone(self):
        # Right as long as letters are only put: what the question itself knows, and nothing by any other message.
        for world, question in unkept(some_questions(17)):
            small = small_of(question)
            every = slow_further_messages(world, question[0])
            for spare in range(3):
                steps = tuple(
                    tuple(small[1][state][message[1]] if message[0] == "put" else (0, state, small[1][state][0])[spare] for message in every)
                    for state in range(len(small[1]))
                )
                self.check(world, question, (steps, small[2]))

    def twelve(self, chance):
        """Questions of just twelve states without a right keeper in some world."""
        up = tuple((min(state + 1, 11), state) for state in range(12))
        yield 2, up, (0,) * 11 + (1,)
        yield 2, tuple(row[::-1] for row in up), (0,) * 11 + (1,)
        yield 2, tuple((min(state + 1, 11), max(state - 1, 0)) for state in range(12)), (1,) + (0,) * 11
        yield 2, tuple(((state + 1) % 12, 10 if state == 11 else state) for state in range(12)), (1,) + (0,) * 11
        yield 3, tuple((min(state + 1, 11), min(state + 1, 11), state) for state in range(12)), (0,) * 11 + (1,)
        # Round by eleven once a letter 1 came: the tail is but one state.
        yield 2, ((1, 2),) + tuple((at % 11 + 1, at % 11 + 1) for at in range(1, 12)), (1,) + (0,) * 10 + (1,)
        # Letter 0 goes round four, letter 1 up to two.
        rows = [(low, high) for low in range(4) for high in range(3)]
        steps = tuple((rows.index(((low + 1) % 4, high)), rows.index((low, min(high + 1, 2)))) for low, high in rows)
        for at in range(12):
            yield 2, steps, tuple(int(place == at) for place in range(12))
        for letters in (2, 3):
            for _ in range(12):
                yield any_question(chance, letters, 12)
                yield any_commuting(chance, letters, 12)

    def test_twelve_states(self):
        chance = random.Random(18)
        for world, question in unkept(self.twelve(chance)):
            letters = question[0]
            men = [any_further_keeper(chance, world, letters, 12) for _ in range(2)]
            men += [rounds(world, letters, tail, 12 - tail, question[2]) for tail in range(12)]
            men += [rounds(world, letters, 11, 1, (0,)), rounds(world, letters, 0, 12, (1, 0)), idle(world, letters)]
            for man in men:
                self.assertLessEqual(len(man[0]), 12)
                self.assertIsNotNone(self.check(world, question, man), (world, question, man))

    def test_twelve_states_that_know_much(self):
        # Keepers who are right for all texts that letters put alone make, of questions whose letters commute.
        chance = random.Random(19)
        for question in self.twelve(chance):
            small = small_of(question)
            if slow_can_keep_further("turned", question) or not slow_can_keep_further("move", question):
                continue
            every = slow_further_messages("turned", question[0])
            for _ in range(6):
                steps = tuple(
                    tuple(small[1][state][message[1]] if message[0] == "put" else chance.randrange(len(small[1])) for message in every)
                    for state in range(len(small[1]))
                )
                self.assertIsNotNone(self.check("turned", question, (steps, small[2])))

    def test_great_keepers_and_questions(self):
        chance = random.Random(20)
        up = tuple((min(state + 1, 39), state) for state in range(40))
        tried = [(2, up, (0,) * 39 + (1,)), SOME, LAST, TWO, any_question(chance, 2, 40), any_question(chance, 3, 40)]
        for world, question in unkept(tried):
            letters = question[0]
            men = [rounds(world, letters, 2990, 10, (0,)), rounds(world, letters, 0, 3000, (0,)), rounds(world, letters, 40, 1, (0, 0, 1))]
            men += [rounds(world, letters, 50, 50, (0,)), any_further_keeper(chance, world, letters, 300)]
            for man in men:
                self.check(world, question, man)

    def test_too_many(self):
        # He counts letter 0 up to 200, and answers right as long as no more than that are told.
        every = slow_further_messages("turned", 2)
        steps = []
        for state in range(201):
            more, less = min(state + 1, 200), max(state - 1, 0)
            told = {("put", 0): more, ("put", 1): state, ("change", 0, 1): less, ("change", 1, 0): more}
            steps.append(tuple(told[message] for message in every))
        man = (tuple(steps), (0,) + (1,) * 200)
        self.assertEqual(error_of(mislead, "turned", SOME, man), bad("TooMany", most=100))
        self.assertIs(shows_misled("turned", SOME, man, (("put", 0),)), False)
        self.assertIs(shows_misled("turned", SOME, man, (("put", 0),) * 60), False)
        # One who counts up to 40 is misled.
        few = (tuple(tuple(min(state, 40) for state in row) for row in steps[:41]), (0,) + (1,) * 40)
        self.assertIsNotNone(self.check("turned", SOME, few))

    def test_all_small_keepers(self):
        for steps in itertools.islice(itertools.product(itertools.product(range(2), repeat=3), repeat=2), 0, None, 3):
            for answers in itertools.product(range(2), repeat=2):
                for world in ("cut", "flip"):
                    self.check(world, LAST, (steps, answers))
        for steps in itertools.islice(itertools.product(itertools.product(range(2), repeat=4), repeat=2), 0, None, 5):
            for answers in itertools.product(range(2), repeat=2):
                for world, question in (("move", LAST), ("turned", SOME), ("turned", LAST)):
                    self.check(world, question, (steps, answers))

    def test_answerable(self):
        for question in (EVEN, SOME, THREE, ONLY, ring(3), ring(40)):
            for world in FURTHER:
                man = idle(world, question[0])
                if slow_can_keep_further(world, question):
                    self.assertEqual(error_of(mislead, world, question, man), bad("Answerable"))
                    for value in ((), None, (("put", 0),), DEEP, (("put", 9),)):
                        self.assertEqual(error_of(shows_misled, world, question, man, value), bad("Answerable"))
                else:
                    self.check(world, question, man)


class TestShowsMisled(unittest.TestCase):
    def test_all_short_edits(self):
        chance = random.Random(21)
        for world, question in unkept((LAST, SOME, TWO)):
            for man in (idle(world, 2), idle(world, 2, 1), any_further_keeper(chance, world, 2, 3)):
                rows = [((), ())]
                for edits, text in rows:
                    expected = slow_misled(world, question, man, edits)
                    self.assertIs(shows_misled(world, question, man, edits), expected, (world, question, man, edits))
                    if len(edits) < 3:
                        for edit in done_further_edits(world, 2, text):
                            after = list(text)
                            slow_further_edit(after, edit)
                            rows.append((edits + (edit,), tuple(after)))

    def test_any_edits(self):
        chance = random.Random(22)
        for world, question in unkept(some_questions(23)):
            man = any_further_keeper(chance, world, question[0], 4)
            for _ in range(6):
                edits = any_further_edits(chance, world, question[0], chance.randint(0, 100))[0]
                self.assertIs(shows_misled(world, question, man, edits), slow_misled(world, question, man, edits))

    def test_any_value(self):
        for world, question in unkept((LAST, SOME)):
            man = idle(world, 2)
            for at, value in enumerate(NOTHING + (None,)):
                self.assertIs(shows_misled(world, question, man, value), slow_misled(world, question, man, value), (world, at))
                for edits in ((value,), (("put", 0), value)):
                    expected = slow_misled(world, question, man, edits)
                    self.assertIs(shows_misled(world, question, man, edits), expected, (world, at))
            self.assertIs(shows_misled(world, question, man, ()), slow_misled(world, question, man, ()))

    def test_too_long(self):
        for world in FURTHER:
            man = idle(world, 2)
            edits = puts("end", (0,) * 59 + (1,))
            self.assertIs(shows_misled(world, LAST, man, edits), True)
            self.assertIs(shows_misled(world, LAST, man, edits + (("put", 1),)), False)
        edits = (("put", 1),) + (("cut", 0),) * 99
        self.assertIs(shows_misled("cut", LAST, STILL, edits), True)
        self.assertIs(shows_misled("cut", LAST, STILL, edits + (("cut", 0),)), False)


class TestWrong(unittest.TestCase):
    def test_arguments(self):
        questions = [(value, bad("BadQuestion", part=part)) for value, part in WRONG_QUESTIONS]
        # Those of two messages, as one letter has in "cut"; and a question of one letter with which no keeper is tried.
        keepers = [(value, bad("BadKeeper", index=index)) for value, index in WRONG_KEEPERS]
        rows = [(value, bad("BadMessages", index=None)) for value in NOT_ROWS]
        rows += [((("put", 0), value, None), bad("BadMessages", index=1)) for value in NOT_MESSAGES]
        man = (((0, 0), (1, 1)), (0, 1))
        check_arguments(self, keep_further, ["cut", 1, man, (("put", 0), ("cut",))], [WRONG_FURTHER, WRONG_LETTERS, keepers, rows])
        for world in FURTHER:
            check_arguments(self, further_reason, [world, EVEN], [WRONG_FURTHER, questions])
            check_arguments(self, shows_further_reason, [world, EVEN, None], [WRONG_FURTHER, questions, []])
        told = [(value, bad("BadKeeper", index=index)) for value, index in WRONG_KEEPERS if index is None]
        told += [(((IDLE[0][0], row), (0, 0)), bad("BadKeeper", index=1)) for row in ((0,) * 3, (0,) * 5, (0, 0, 0, 2), None, DEEP, (0, 0, 0, True))]
        told += [((IDLE[0] * 2, (0, told)), bad("BadKeeper", index=1)) for told in (4, -1, None, True, "0", (0,), 10 ** 5000)]
        for world in ("move", "turned"):
            check_arguments(self, mislead, [world, LAST, IDLE], [WRONG_FURTHER, questions, told])
            check_arguments(self, shows_misled, [world, LAST, IDLE, ()], [WRONG_FURTHER, questions, told, []])

    def test_answerable_behind_wrong_arguments(self):
        for call, rest in ((mislead, ()), (shows_misled, (None,))):
            self.assertEqual(error_of(call, "move", EVEN, None, *rest), bad("BadKeeper", index=None))
            self.assertEqual(error_of(call, "move", EVEN, (((0, 0, 0),), (0,)), *rest), bad("BadKeeper", index=0))
            self.assertEqual(error_of(call, "move", EVEN, IDLE, *rest), bad("Answerable"))
            self.assertEqual(error_of(call, "in", EVEN, IDLE, *rest), bad("BadWorld"))

    def test_any_last_value(self):
        for world, question in itertools.product(FURTHER, (EVEN, SOME, LAST)):
            for at, value in enumerate(NOTHING):
                found = shows_further_reason(world, question, value)
                self.assertIs(found, slow_shows(world, question, value), (world, at))


class TestUnchanged(unittest.TestCase):
    def test_arguments(self):
        chance = random.Random(24)
        for world, question in unkept((LAST, SOME, TWO)):
            man = any_further_keeper(chance, world, 2, 3)
            kept = copy.deepcopy((question, man))
            calls = [
                lambda: further_reason(world, question), lambda: mislead(world, question, man),
                lambda: shows_misled(world, question, man, (("put", 0),)),
                lambda: shows_further_reason(world, question, ("order", (), 0, 1, ())),
                lambda: keep_further(world, 2, man, (("put", 0),)),
            ]
            found = [call() for call in calls]
            self.assertEqual([call() for call in reversed(calls)], found[::-1])
            self.assertEqual((question, man), kept)

    def test_wrong_arguments(self):
        for value in ([["put", 0]], (["put", 0],), [], {}, ["order", [], 0, 1, []], ("order", [0], 0, 1, [0]), {0: [1]}):
            before = copy.deepcopy(value)
            for world in FURTHER:
                self.assertIs(shows_further_reason(world, LAST, value), False)
                self.assertIs(shows_misled(world, LAST, idle(world, 2), value), False)
                self.assertIsNotNone(error_of(keep_further, world, 2, idle(world, 2), value))
                self.assertIsNotNone(error_of(keep_further, world, 2, value, value))
                self.assertIsNotNone(error_of(mislead, world, LAST, value))
            self.assertEqual(value, before)

    def test_kinds(self):
        found = mislead("cut", LAST, STILL)
        self.assertIs(type(found), tuple)
        self.assertTrue(all(type(edit) is tuple for edit in found))
        self.assertIs(type(further_reason("cut", LAST)), tuple)
        self.assertIs(type(keep_further("cut", 2, STILL, ())), tuple)


if __name__ == "__main__":
    unittest.main()

import copy
import itertools
import random
import unittest

from helpers import (
    DEEP, DEEP_LIST, EVEN, KEPT, LAST, NEVER, ONLY, SOME, THREE, WORLDS, WRONG_KEEPERS, WRONG_LETTERS,
    WRONG_QUESTIONS, WRONG_WORLDS, all_questions, any_edits, any_keeper, any_question, any_questions, bad,
    check_arguments, done_edits, error_of, group, message_of, puts, ring, short_texts, slow_answer,
    slow_can_keep, slow_edit, slow_keep, slow_least, slow_messages, walked,
)
from toldwhat import keepers
from toldwhat.keepers import can_keep, keep, keeper
from toldwhat.questions import least, maps

# The right keeper has just 3000 states, and just 3001.
KEEPERS_3000 = (
    ("ends", (2, ((1, 2), (3, 0), (1, 4), (5, 6), (2, 6), (3, 7), (7, 4), (0, 7)), (0, 0, 1, 1, 0, 0, 0, 0))),
    ("ends", (3, ((1, 0, 1), (2, 3, 2), (1, 4, 4), (4, 4, 4), (4, 1, 5), (0, 5, 2)), (1, 1, 1, 1, 0, 0))),
    ("reverse", (2, ((1, 2), (3, 4), (4, 4), (0, 3), (5, 3), (3, 4)), (0, 0, 1, 0, 1, 1))),
)
KEEPERS_3001 = (
    ("ends", (2, ((1, 2), (3, 4), (5, 6), (6, 5), (4, 0), (6, 0), (2, 2)), (1, 0, 1, 0, 0, 0, 0))),
    ("reverse", (2, ((1, 2), (2, 3), (4, 2), (5, 6), (3, 2), (0, 0), (4, 0)), (1, 0, 1, 0, 1, 0, 0))),
    ("relabel", (3, ((1, 2, 1), (2, 3, 0), (3, 2, 4), (4, 4, 3), (3, 0, 3)), (0, 0, 1, 1, 0))),
)

# All orders of three, of six and of seven states.
ORDERS_3 = (2, ((1, 1), (0, 2), (2, 0)), (1, 0, 0))
SWAP = (1, 0, 2, 3, 4, 5, 6)
ORDERS_6 = (2, tuple((SWAP[state], (state + 1) % 6) for state in range(6)), (1, 0, 0, 0, 0, 0))
ORDERS_7 = (2, tuple((SWAP[state], (state + 1) % 7) for state in range(7)), (1, 0, 0, 0, 0, 0, 0))

PAIRS = group((2, 4), ((1, 0), (0, 1), (1, 3)), lambda total: int(total == (1, 3)))

NOT_ROWS = (
    None, True, False, 0, 1, -1, 10 ** 5000, "", "put", [], [("put", 0)], {}, {("put", 0): 0}, DEEP_LIST,
    (("put", 0),) * 101, (None,) * 101, (("put", 0),) * 1000,
)

NOT_MESSAGES = NEVER + (
    (), ("put",), ("put", 2), ("put", -1), ("put", True), ("put", False), ("put", None), ("put", "0"), ("put", (0,)),
    ("put", [0]), ["put", 0], ("put", 10 ** 5000), ("put", DEEP), ("put", 0, 0), ("Put", 0), ("move", 0), (0, "put"),
    ("turn", 0), ("turn", (0, 0)), ("turn", (0, 1, 2)), ("turn", (True, False)), ("turn", [1, 0]), ("turn", DEEP), DEEP,
    ("take", 2), ("chop", 2), ("front", None), ("behead", "a"), ("take", 0, 0), (("put", 0),), (DEEP, 0), ([], 0), ({}, 0),
)


def open_messages(world, letters):
    """The messages that some edit has behind any text."""
    return [message for message in slow_messages(world, letters) if message[0] in ("put", "front", "turn")]


class TestInterface(unittest.TestCase):
    def test_examples(self):
        even = (2, ((1, 0), (0, 1)), (1, 0))
        some = (2, ((1, 0), (1, 1)), (0, 1))
        found = [can_keep("inout", even), can_keep("in", some), can_keep("stack", some), keeper("inout", even)]
        self.assertEqual(found, [True, True, False, (((1, 0, 1, 0), (0, 1, 0, 1)), (1, 0))])
        row = (("put", 1), ("put", 0), ("put", 1))
        self.assertEqual(keep("in", 2, keeper("in", some), row), (0, 0, 1, 1))
        self.assertEqual(error_of(keeper, "inout", some), ("NoKeeper", {}))

    def test_defined_here(self):
        for name in ("can_keep", "keeper", "keep"):
            self.assertEqual(getattr(keepers, name).__module__, "toldwhat.keepers")

    def test_names_of_arguments(self):
        self.assertIs(can_keep(world="in", question=SOME), True)
        found = keeper(world="in", question=SOME)
        self.assertEqual(keep(world="in", letters=2, keeper=found, row=()), (0,))


class TestCanKeep(unittest.TestCase):
    def check(self, question):
        for world in WORLDS:
            self.assertIs(can_keep(world, question), slow_can_keep(world, question), (world, question))

    def test_all_small(self):
        for letters, most in ((1, 3), (2, 2), (3, 1)):
            for many in range(1, most + 1):
                for question in all_questions(letters, many):
                    self.check(question)

    def test_any(self):
        for question in any_questions(21, 150):
            self.check(question)

    def test_three_letters(self):
        for question in itertools.islice(all_questions(3, 2), 0, None, 3):
            self.check(question)

    def test_written_out(self):
        kept = {
            EVEN: "yyyy", SOME: "nnyn", LAST: "nnnn", ONLY: "yyyy", THREE: "yyyy", ORDERS_3: "yynn", ORDERS_7: "yynn",
            ring(40): "yyyy", PAIRS: "yyyy", (1, ((1,), (1,)), (0, 1)): "nnyn",
            # The letters commute, but not what they do alone; and the other way round.
            (2, ((1, 1), (2, 2), (2, 2)), (0, 0, 1)): "nnyn", (2, ((1, 0), (2, 2), (0, 1)), (0, 1, 2)): "yynn",
        }
        for question, letters in kept.items():
            for world, letter in zip(("stack", "deque", "in", "inout"), letters):
                self.assertIs(can_keep(world, question), letter == "y", (world, question))
            for world in ("end", "ends", "relabel", "reverse"):
                self.assertIs(can_keep(world, question), True)

    def test_of_the_least_question(self):
        # What parts and commutes only in the least question, or only among states that are come to.
        apart = (1, ((1,), (1,)), (0, 0))
        self.assertIs(can_keep("inout", apart), True)
        unmet = (2, ((1, 0), (0, 1), (0, 0), (2, 3)), (1, 0, 2, 3))
        self.assertIs(can_keep("inout", unmet), True)
        doubled = (2, ((1, 2), (0, 3), (3, 0), (3, 1)), (1, 1, 0, 0))
        self.assertEqual(can_keep("stack", doubled), slow_can_keep("stack", doubled))

    def test_in_by_counts(self):
        # Behind all orders of the same letters the answers are the same, or else nobody keeps it.
        for question in itertools.chain(all_questions(2, 2), itertools.islice(all_questions(2, 3), 0, None, 37)):
            answers = {}
            for text in short_texts(2, 5):
                answers.setdefault(tuple(sorted(text)), set()).add(slow_answer(question, text))
            self.assertIs(can_keep("in", question), all(len(found) == 1 for found in answers.values()), question)

    def test_relabelled_states(self):
        chance = random.Random(22)
        for _ in range(50):
            question = any_question(chance, 2, 6)
            self.assertEqual([can_keep(world, question) for world in WORLDS], [can_keep(world, least(question)) for world in WORLDS])


class TestKeeper(unittest.TestCase):
    def check_right(self, world, question, found, depth):
        """Every row of so many edits: the keeper answers right behind each."""
        pairs = {((), 0)}
        every = slow_messages(world, question[0])
        for _ in range(depth):
            later = set()
            for text, state in pairs:
                self.assertEqual(found[1][state], slow_answer(question, text), (world, question, text))
                for edit in done_edits(world, question[0], text):
                    reached = list(text)
                    slow_edit(reached, edit)
                    later.add((tuple(reached), found[0][state][every.index(message_of(edit))]))
            pairs = later
        for text, state in pairs:
            self.assertEqual(found[1][state], slow_answer(question, text), (world, question, text))

    def check_fewest(self, world, question, found):
        """No two states can be one: messages that edits can have behind any text bring unlike answers."""
        every = slow_messages(world, question[0])
        steps, answers = found
        many = len(steps)
        unlike = {pair for pair in itertools.combinations(range(many), 2) if answers[pair[0]] != answers[pair[1]]}
        grew = True
        while grew:
            grew = False
            for one, other in itertools.combinations(range(many), 2):
                for at in [every.index(message) for message in open_messages(world, question[0])]:
                    if (one, other) not in unlike and tuple(sorted((steps[one][at], steps[other][at]))) in unlike:
                        unlike.add((one, other))
                        grew = True
        self.assertEqual(len(unlike), many * (many - 1) // 2, (world, question))
        # Each state is that of some edits: open messages lead to all of them.
        met, left = {0}, [0]
        while left:
            state = left.pop()
            for at in [every.index(message) for message in open_messages(world, question[0])]:
                if steps[state][at] not in met:
                    met.add(steps[state][at])
                    left.append(steps[state][at])
        self.assertEqual(met, set(range(many)), (world, question))

    def check_numbered(self, found):
        seen = [0]
        for row in found[0]:
            for state in row:
                if state not in seen:
                    seen.append(state)
        self.assertEqual(seen, list(range(len(found[0]))))

    def check(self, question, depth):
        for world in WORLDS:
            if not slow_can_keep(world, question):
                self.assertEqual(error_of(keeper, world, question), ("NoKeeper", {}), (world, question))
                continue
            found = keeper(world, question)
            self.assertEqual([type(found), type(found[0]), type(found[1])], [tuple] * 3)
            self.assertEqual(len(found[0]), len(found[1]))
            self.assertEqual({len(row) for row in found[0]}, {len(slow_messages(world, question[0]))})
            self.check_right(world, question, found, depth)
            self.check_fewest(world, question, found)
            self.check_numbered(found)

    def test_all_small(self):
        for letters, most in ((1, 2), (2, 1), (3, 1)):
            for many in range(1, most + 1):
                for question in all_questions(letters, many):
                    self.check(question, 4)
        for question in itertools.islice(all_questions(2, 2), 0, None, 3):
            self.check(question, 4)
        for question in itertools.islice(all_questions(1, 3), 0, None, 5):
            self.check(question, 4)

    def test_any(self):
        chance = random.Random(23)
        for letters, many, times in ((1, 5, 8), (2, 3, 8), (3, 2, 8)):
            for _ in range(times):
                question = any_question(chance, letters, many, 3)
                if len(maps(question)) < 20:
                    self.check(question, 3)

    def test_that_can_be_kept(self):
        for question in (EVEN, SOME, LAST, ONLY, THREE, ORDERS_3, ring(5), ring(6, (0, 1, 2, 0, 1, 3))):
            self.check(question, 3)
        for moduli, weights in (((2, 2), ((1, 0), (0, 1))), ((3,), ((1,), (2,), (0,))), ((2, 4), ((1, 1), (0, 3)))):
            self.check(group(moduli, weights, lambda total: int(sum(total) == 1)), 3)

    def test_long_histories(self):
        chance = random.Random(24)
        tried = [EVEN, SOME, LAST, THREE, ORDERS_3, PAIRS, ring(40), ring(7, (1, 0, 0, 2, 0, 3, 0))]
        tried += [any_question(chance, letters, many, 4) for letters in (1, 2, 3) for many in (3, 4) for _ in range(2)]
        for question, world in itertools.product(tried, WORLDS):
            if not can_keep(world, question):
                continue
            found = keeper(world, question)
            for _ in range(8):
                edits, text = any_edits(chance, world, question[0], chance.randint(0, 100))
                answers = keep(world, question[0], found, tuple(message_of(edit) for edit in edits))
                self.assertEqual(len(answers), len(edits) + 1)
                self.assertEqual(answers[-1], slow_answer(question, text), (world, question, edits))
                now = []
                for edit, told in zip(edits, answers[1:]):
                    slow_edit(now, edit)
                    self.assertEqual(told, slow_answer(question, now), (world, question, edits))

    def test_sizes(self):
        for question in (EVEN, SOME, LAST, THREE, ORDERS_3):
            small = slow_least(question)
            for world in ("end", "in", "stack", "inout"):
                if can_keep(world, question):
                    self.assertEqual(len(keeper(world, question)[0]), len(small[1]))
            for world in ("ends", "deque"):
                if can_keep(world, question):
                    self.assertEqual(len(keeper(world, question)[0]), len(maps(question)))
        self.assertEqual(len(keeper("deque", ORDERS_6)[0]), 720)
        self.assertEqual(len(keeper("ends", ORDERS_6)[0]), 720)
        self.assertEqual(len(keeper("inout", ring(40))[0]), 40)
        self.assertEqual(len(keeper("reverse", ring(40))[0]), 40)

    def test_written_out(self):
        self.assertEqual(keeper("end", EVEN), (((1, 0), (0, 1)), (1, 0)))
        self.assertEqual(keeper("stack", EVEN), (((1, 0, 1, 0), (0, 1, 0, 1)), (1, 0)))
        self.assertEqual(keeper("end", LAST), (((0, 1), (0, 1)), (0, 1)))
        # chop ahead of put: the letter that is taken off leads on from state 0 first.
        self.assertEqual(keeper("stack", ring(3)), (((1, 2), (2, 0), (0, 1)), (1, 0, 0)))
        self.assertEqual(keeper("inout", ring(3)), (((1, 2), (2, 0), (0, 1)), (1, 0, 0)))
        self.assertEqual(keeper("deque", ring(3)), (((1, 1, 2, 2), (2, 2, 0, 0), (0, 0, 1, 1)), (1, 0, 0)))
        # front 0, front 1, put 0, put 1: the void text, then what the last letter is.
        self.assertEqual(keeper("ends", LAST), (((1, 2, 1, 2), (1, 1, 1, 2), (2, 2, 1, 2)), (0, 0, 1)))
        # put 0, put 1, the letters stay, the letters change: a void text, then whether the last letter is 1.
        self.assertEqual(keeper("relabel", LAST), (((1, 2, 0, 0), (1, 2, 1, 2), (1, 2, 2, 1)), (0, 0, 1)))
        # put 0, put 1, turn: none, 0..0, 1..1, 0..1, 1..0.
        rows = ((1, 2, 0), (1, 3, 1), (4, 2, 2), (1, 3, 4), (4, 2, 3))
        self.assertEqual(keeper("reverse", LAST), (rows, (0, 0, 1, 1, 0)))
        self.assertEqual(keeper("reverse", (1, ((0,),), (3,))), (((0, 0),), (3,)))
        self.assertEqual(keeper("relabel", (1, ((0,),), (3,))), (((0, 0),), (3,)))

    def test_not_numbered_as_least(self):
        # In the least question 0 leads to state 1; by chop 0, the first message, the last state is come to first.
        found = keeper("stack", (1, ((1,), (2,), (3,), (0,)), (0, 1, 2, 3)))
        self.assertEqual(found, (((1, 2), (3, 0), (0, 3), (2, 1)), (0, 3, 1, 2)))

    def test_no_keeper(self):
        for world, question in itertools.product(("stack", "deque", "inout"), (SOME, LAST, (1, ((1,), (1,)), (0, 1)))):
            self.assertEqual(error_of(keeper, world, question), ("NoKeeper", {}))
        for world, question in itertools.product(("in", "inout"), (LAST, ORDERS_3, ORDERS_7)):
            self.assertEqual(error_of(keeper, world, question), ("NoKeeper", {}))

    def test_just_so_many_states(self):
        for world, question in KEEPERS_3000:
            found = keeper(world, question)
            self.assertEqual(len(found[0]), 3000)
            self.check_numbered(found)
            # It is let as an argument, too.
            self.assertEqual(keep(world, question[0], found, ()), (question[2][0],))
        for world, question in KEEPERS_3001:
            self.assertEqual(error_of(keeper, world, question), ("TooMany", {"most": 3000}))
            self.assertIs(can_keep(world, question), True)

    def test_too_many(self):
        self.assertEqual(error_of(keeper, "ends", ORDERS_7), ("TooMany", {"most": 3000}))
        self.assertEqual(error_of(keeper, "deque", ORDERS_7), ("TooMany", {"most": 3000}))
        self.assertEqual(error_of(keeper, "reverse", ORDERS_7), ("TooMany", {"most": 3000}))
        self.assertEqual(len(keeper("stack", ORDERS_7)[0]), 7)
        # NoKeeper, not TooMany, where nobody keeps it.
        self.assertEqual(error_of(keeper, "in", ORDERS_7), ("NoKeeper", {}))
        # How often each letter comes, of each up to 39 less.
        counts = group((3, 13), ((1, 0), (0, 1), (0, 0)), lambda total: int(total == (0, 0)))
        self.assertEqual(error_of(keeper, "relabel", counts), ("TooMany", {"most": 3000}))
        self.assertEqual(len(keeper("inout", counts)[0]), 39)


class TestKeep(unittest.TestCase):
    def test_any_keepers(self):
        chance = random.Random(25)
        for world, letters, _ in itertools.product(WORLDS, (1, 2, 3), range(5)):
            man = any_keeper(chance, world, letters, chance.randint(1, 6), 4)
            every = slow_messages(world, letters)
            for length in (0, 1, 2, chance.randint(3, 99), 100):
                row = tuple(chance.choice(every) for _ in range(length))
                self.assertEqual(keep(world, letters, man, row), slow_keep(world, letters, man, row))

    def test_lengths(self):
        for many in (0, 1, 99, 100):
            row = (("put", 0),) * many
            self.assertEqual(keep("end", 2, KEPT, row), tuple(1 - at % 2 for at in range(many + 1)))
        for many in (101, 102, 1000):
            self.assertEqual(error_of(keep, "end", 2, KEPT, (("put", 0),) * many), bad("BadMessages", index=None))
            self.assertEqual(error_of(keep, "end", 2, KEPT, (None,) * many), bad("BadMessages", index=None))
        row = (("put", 0),) * 99 + (None,)
        self.assertEqual(error_of(keep, "end", 2, KEPT, row), bad("BadMessages", index=99))

    def test_messages_that_no_edits_have(self):
        man = (((1, 0), (2, 0), (0, 2)), (0, 1, 2))
        self.assertEqual(keep("stack", 1, man, (("chop", 0),) * 4), (0, 1, 2, 0, 1))
        self.assertEqual(keep("stack", 1, man, (("chop", 0), ("put", 0), ("chop", 0), ("chop", 0))), (0, 1, 0, 1, 2))
        found = keeper("inout", EVEN)
        self.assertEqual(keep("inout", 2, found, (("take", 0), ("take", 1), ("take", 0))), (1, 0, 0, 1))
        found = keeper("deque", THREE)
        self.assertEqual(len(keep("deque", 3, found, (("behead", 2), ("chop", 1)))), 3)

    def test_each_message_in_its_place(self):
        # Each message leads to a state of its own, which tells itself by the answers behind it.
        for world, letters in itertools.product(WORLDS, (1, 2, 3)):
            every = slow_messages(world, letters)
            for at, message in enumerate(every):
                steps = (tuple(int(place == at) for place in range(len(every))), (1,) * len(every))
                for other in every:
                    found = keep(world, letters, (steps, (0, 3)), (other,))
                    self.assertEqual(found, (0, 3 if other == message else 0))

    def test_first_answer(self):
        for told in range(4):
            self.assertEqual(keep("end", 1, (((0,),), (told,)), ()), (told,))

    def test_wrong_messages(self):
        for world in ("end", "ends", "stack", "deque", "in", "inout"):
            man = (((0,) * len(slow_messages(world, 2)),), (0,))
            for at, value in enumerate(NOT_MESSAGES):
                self.assertEqual(error_of(keep, world, 2, man, (value,)), bad("BadMessages", index=0), (world, at))
                row = (("put", 1), value, None)
                self.assertEqual(error_of(keep, world, 2, man, row), bad("BadMessages", index=1), (world, at))
            for value in NOT_ROWS:
                self.assertEqual(error_of(keep, world, 2, man, value), bad("BadMessages", index=None))

    def test_messages_of_other_worlds(self):
        every = {world: set(slow_messages(world, 2)) for world in WORLDS}
        for world, other in itertools.product(WORLDS, WORLDS):
            man = (((0,) * len(every[world]),), (0,))
            for message in every[other]:
                expected = None if message in every[world] else bad("BadMessages", index=0)
                self.assertEqual(error_of(keep, world, 2, man, (message,)), expected, (world, message))

    def test_edits_are_not_messages(self):
        self.assertEqual(error_of(keep, "in", 2, KEPT, (("put", 0, 0),)), bad("BadMessages", index=0))
        self.assertEqual(error_of(keep, "in", 2, KEPT, puts("in", (0, 1))), bad("BadMessages", index=0))


class TestWrong(unittest.TestCase):
    def test_world_and_question(self):
        questions = [(value, bad("BadQuestion", part=part)) for value, part in WRONG_QUESTIONS]
        for call, world in itertools.product((can_keep, keeper), ("end", "in", "inout")):
            check_arguments(self, call, [world, EVEN], [WRONG_WORLDS, questions])
        # BadQuestion, not NoKeeper.
        self.assertEqual(error_of(keeper, "inout", (2, SOME[1], (0, 4))), bad("BadQuestion", part="answers"))

    def test_keep(self):
        wrong = [
            WRONG_WORLDS, WRONG_LETTERS, [(value, bad("BadKeeper", index=index)) for value, index in WRONG_KEEPERS],
            [(value, bad("BadMessages", index=None)) for value in NOT_ROWS],
        ]
        for world in ("end", "in"):
            check_arguments(self, keep, [world, 2, KEPT, (("put", 0),)], wrong)

    def test_keepers_of_other_worlds(self):
        for world, letters in itertools.product(WORLDS, (1, 2, 3)):
            width = len(slow_messages(world, letters))
            for many in range(15):
                expected = None if many == width else bad("BadKeeper", index=0)
                self.assertEqual(error_of(keep, world, letters, (((0,) * many,), (0,)), ()), expected)

    def test_most_states(self):
        steps = tuple(((state + 1) % 3000,) for state in range(3000))
        answers = (1,) + (0,) * 2999
        self.assertEqual(keep("end", 1, (steps, answers), (("put", 0),)), (1, 0))
        longer = (steps + ((0,),), answers + (0,))
        self.assertEqual(error_of(keep, "end", 1, longer, ()), bad("BadKeeper", index=None))
        self.assertEqual(error_of(keep, "end", 1, (steps, answers[1:] + (4,)), ()), bad("BadKeeper", index=2999))
        self.assertEqual(error_of(keep, "end", 1, (steps[1:], answers), ()), bad("BadKeeper", index=None))

    def test_no_question_for_a_keeper(self):
        self.assertEqual(error_of(keep, "end", 2, EVEN, ()), bad("BadKeeper", index=None))
        self.assertEqual(error_of(can_keep, "end", KEPT), bad("BadQuestion", part="question"))


class TestUnchanged(unittest.TestCase):
    def test_wrong_arguments(self):
        values = ([[(1, 0), (0, 1)], [1, 0]], ([[1, 0], [0, 1]], [1, 0]), {0: [1]}, ((([1, 0],), [1, 0])), [["put", 0]], (DEEP,))
        for value in values:
            before = copy.deepcopy(value) if value != (DEEP,) else value
            for world in WORLDS:
                self.assertIsNotNone(error_of(can_keep, world, value))
                self.assertIsNotNone(error_of(keeper, world, value))
                self.assertIsNotNone(error_of(keep, world, 2, value, value))
                self.assertIsNotNone(error_of(keep, world, value, value, value))
            self.assertIsNotNone(error_of(keep, "end", 2, KEPT, value))
            self.assertEqual(value, before)

    def test_again_the_same(self):
        for question in any_questions(26, 12):
            kept = copy.deepcopy(question)
            for world in ("end", "in", "stack", "inout"):
                if can_keep(world, question):
                    found = keeper(world, question)
                    before = copy.deepcopy(found)
                    row = (("put", 0),) * 3
                    answers = keep(world, question[0], found, row)
                    self.assertEqual(keep(world, question[0], found, row), answers)
                    self.assertEqual(found, before)
                    self.assertEqual(keeper(world, question), before)
            self.assertEqual(question, kept)

    def test_kinds(self):
        for world in WORLDS:
            found = keeper(world, EVEN)
            for row in found[0] + (found[1], keep(world, 2, found, (("put", 0),))):
                self.assertIs(type(row), tuple)
                for number in row:
                    self.assertIs(type(number), int)

    def test_walked_as_told(self):
        # In "end" the keeper is the least question itself.
        for question in any_questions(27, 40):
            small = slow_least(question)
            self.assertEqual(keeper("end", question), small[1:])
            for text in short_texts(question[0], 3):
                row = tuple(("put", letter) for letter in text)
                self.assertEqual(keep("end", question[0], small[1:], row)[-1], small[2][walked(small, text)])


if __name__ == "__main__":
    unittest.main()

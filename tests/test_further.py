import copy
import itertools
import random
import unittest

from helpers import (
    DEEP, DEEP_LIST, EVEN, FURTHER, LAST, NEVER, ONLY, SOME, THREE, WRONG_FURTHER, WRONG_LETTERS, WRONG_QUESTIONS,
    all_questions, any_commuting, any_further_edits, any_questions, any_tailed, bad, check_arguments, commutes,
    done_further_edits, error_of, further_message_of, group, puts, ring, short_texts, slow_answer,
    slow_can_keep_further, slow_further_edit, slow_further_messages, slow_lasting, slow_least, slow_states, small_of,
)
from toldwhat import further
from toldwhat.further import can_keep_further, further_keeper, further_messages, further_text, further_told

CALLS = (further_text, further_told)

PAIRS = group((2, 4), ((1, 0), (0, 1), (1, 3)), lambda total: int(total == (1, 3)))

# How many letters there are, where letter 1 counts twice, up to two, and from there on by threes.
TAILED = (2, ((1, 2), (2, 3), (3, 4), (4, 2), (2, 3)), (0, 1, 2, 3, 0))

# Edits in no further world, or not behind the text (0, 1) of two letters.
NO_EDITS = NEVER + (
    (), ("put",), ("put", 2), ("put", -1), ("put", True), ("put", False), ("put", None), ("put", "0"), ("put", (0,)),
    ("put", [0]), ("put", DEEP), ("put", DEEP_LIST), ("put", 10 ** 5000), ("put", 0, 0), ("put", 0, 2), ["put", 0],
    ("Put", 0), ("", 0), (None, 0), (0, 0), (DEEP, 0), (DEEP_LIST, 0), ({}, 0), (["put"], 0), ("front", 0), ("chop", 1),
    ("take", 0, 0), ("turn",), ("turn", (1, 0)), ("behead", 0), "put", {"put": 0}, (("put", 0),), DEEP, (DEEP,),
    ("move",), ("move", 0), ("move", 0, 0), ("move", 0, 0, 1, 0), ("move", 1, 0, 1), ("move", 0, 1, 0), ("move", 0, 0, 2),
    ("move", 0, 2, 0), ("move", 0, 0, -1), ("move", 0, -2, 0), ("move", 1, -1, 0), ("move", 2, 0, 1), ("move", 0, 0, 60),
    ("move", True, 1, 0), ("move", 0, False, 1), ("move", 0, 0, True), ("move", None, 0, 1), ("move", 0, None, 1),
    ("move", 0, 0, None), ("move", 0, "0", 1), ("move", 0, 0, 10 ** 5000), ("move", 0, 0, DEEP), ("move", DEEP, 0, 0),
    ["move", 0, 0, 1], ("move", (0, 0, 1)), ("move", 0, 0, (1,)),
    ("cut",), ("cut", -1), ("cut", 3), ("cut", 61), ("cut", True), ("cut", False), ("cut", None), ("cut", "1"),
    ("cut", (1,)), ("cut", [1]), ("cut", 1, 1), ("cut", 0, 1, 0), ("cut", 10 ** 5000), ("cut", DEEP), ["cut", 1],
    ("flip",), ("flip", 0), ("flip", 1, 0), ("flip", 2, 1), ("flip", 0, 3), ("flip", -1, 1), ("flip", 3, 3),
    ("flip", 0, -1), ("flip", 0, 1, 2), ("flip", False, 1), ("flip", 0, True), ("flip", None, 1), ("flip", 0, None),
    ("flip", (0, 1)), ("flip", "0", 1), ("flip", 0, 10 ** 5000), ("flip", DEEP, DEEP), ["flip", 0, 1],
    ("change",), ("change", 0), ("change", 0, 1), ("change", 0, 1, 1), ("change", 1, 0, 0), ("change", 0, 0, 0),
    ("change", 1, 1, 1), ("change", 0, 2, 0), ("change", 0, -1, 0), ("change", 0, 1, 2), ("change", 1, 0, -1),
    ("change", False, 1, 0), ("change", 0, True, 0), ("change", 0, 1, False), ("change", None, 1, 0), ("change", 0, None, 0),
    ("change", 0, 1, None), ("change", 0, "1", 0), ("change", 0, 1, 0, 0), ("change", 0, 1, 10 ** 5000),
    ("change", 10 ** 5000, 1, 0), ("change", 0, DEEP, 0), ("change", 0, 1, DEEP_LIST), ["change", 0, 1, 0],
)

NOT_EDITS = (
    None, True, False, 0, 1, -1, 10 ** 5000, "", "put", [], [("put", 0)], {}, {("put", 0): 0}, DEEP_LIST,
    (("put", 0),) * 101, (None,) * 101, (("put", 0),) * 1000,
)
WRONG_EDITS = tuple((value, bad("BadEdits", index=None)) for value in NOT_EDITS) + tuple(
    ((("put", 0), ("put", 1), value, None), bad("BadEdits", index=2)) for value in NO_EDITS
)


class TestInterface(unittest.TestCase):
    def test_example(self):
        parity, some = (1, ((1,), (0,)), (0, 1)), (2, ((1, 0), (1, 1)), (0, 1))
        edits = (("put", 0), ("put", 1), ("change", 0, 1, 0))
        found = [
            further_text("turned", 2, edits), further_told("turned", 2, edits), can_keep_further("cut", some),
            can_keep_further("turned", some), can_keep_further("turned", parity),
        ]
        self.assertEqual(found, [(1, 1), (("put", 0), ("put", 1), ("change", 0, 1)), True, False, True])

    def test_defined_here(self):
        for name in ("further_text", "further_told", "further_messages", "can_keep_further", "further_keeper"):
            self.assertEqual(getattr(further, name).__module__, "toldwhat.further")

    def test_names_of_arguments(self):
        self.assertEqual(further_text(world="cut", letters=2, edits=()), ())
        self.assertEqual(further_told(world="cut", letters=2, edits=()), ())
        self.assertEqual(further_messages(world="cut", letters=1), (("cut",), ("put", 0)))
        self.assertIs(can_keep_further(world="cut", question=SOME), True)
        self.assertEqual(len(further_keeper(world="cut", question=SOME)), 2)


class TestTexts(unittest.TestCase):
    def test_any_edits(self):
        chance = random.Random(1)
        for world, letters in itertools.product(FURTHER, (1, 2, 3)):
            for many in (0, 1, 2, 5, 20, 50, 100, 100):
                edits, text = any_further_edits(chance, world, letters, many, chance.choice((3, 10, 60)))
                found = further_text(world, letters, edits)
                self.assertEqual(found, text, (world, edits))
                self.assertIs(type(found), tuple)
                row = tuple(further_message_of(edit) for edit in edits)
                self.assertEqual(further_told(world, letters, edits), row)

    def test_written_out(self):
        text = (0, 1, 2, 0)
        told = {
            "move": {
                ("move", 0, 0, 0): (0, 1, 2, 0), ("move", 0, 0, 1): (1, 0, 2, 0), ("move", 0, 0, 3): (1, 2, 0, 0),
                ("move", 2, 2, 0): (2, 0, 1, 0), ("move", 2, 2, 3): (0, 1, 0, 2), ("move", 0, 3, 0): (0, 0, 1, 2),
                ("move", 0, 3, 2): (0, 1, 0, 2), ("move", 1, 1, 2): (0, 2, 1, 0),
            },
            "cut": {("cut", 0): text, ("cut", 1): (1, 2, 0, 0), ("cut", 2): (2, 0, 0, 1), ("cut", 4): text},
            "flip": {
                ("flip", 0, 0): text, ("flip", 4, 4): text, ("flip", 0, 4): (0, 2, 1, 0), ("flip", 1, 3): (0, 2, 1, 0),
                ("flip", 0, 2): (1, 0, 2, 0), ("flip", 0, 1): text, ("flip", 2, 4): (0, 1, 0, 2), ("flip", 1, 4): (0, 0, 2, 1),
            },
            "turned": {
                ("change", 0, 1, 0): (1, 1, 2, 0), ("change", 0, 2, 3): (0, 1, 2, 2), ("change", 1, 0, 1): (0, 0, 2, 0),
                ("change", 2, 1, 2): (0, 1, 1, 0),
            },
        }
        for world, edits in told.items():
            for edit, after in edits.items():
                self.assertEqual(further_text(world, 3, puts("end", text) + (edit,)), after, edit)
                self.assertEqual(further_told(world, 3, puts("end", text) + (edit,))[-1], further_message_of(edit))
            self.assertEqual(further_text(world, 3, puts("end", text)), text)

    def test_which_can_be_done(self):
        """All edits with small numbers, behind short texts: just those of the document's words can be done."""
        for letters in (1, 2, 3):
            small = range(-1, 4)
            every = [("put", a) for a in small] + [("cut", i) for i in small]
            every += [("flip", i, j) for i in small for j in small]
            every += [("move", a, i, j) for a in small for i in small for j in small]
            every += [("change", a, b, i) for a in small for b in small for i in small]
            for text in short_texts(letters, 2):
                edits = puts("end", text)
                for world in FURTHER:
                    can_be = done_further_edits(world, letters, text)
                    for edit in every:
                        expected = None if edit in can_be else bad("BadEdits", index=len(text))
                        for call in CALLS:
                            self.assertEqual(error_of(call, world, letters, edits + (edit,)), expected, (world, text, edit))

    def test_void_text(self):
        for edit in (("cut", 0), ("flip", 0, 0)):
            self.assertEqual(further_text(edit[0], 2, (edit,)), ())
            self.assertEqual(further_told(edit[0], 2, (edit,)), (edit[:1],))
        for world, edit in (("cut", ("cut", 1)), ("flip", ("flip", 0, 1)), ("move", ("move", 0, 0, 0)), ("turned", ("change", 0, 1, 0))):
            self.assertEqual(error_of(further_text, world, 2, (edit,)), bad("BadEdits", index=0))

    def test_places_of_long_texts(self):
        text = (0, 1) * 30
        edits = puts("end", text)
        right = {
            "move": [("move", 0, 0, 59), ("move", 1, 59, 0), ("move", 1, 59, 59)],
            "cut": [("cut", 0), ("cut", 59), ("cut", 60)],
            "flip": [("flip", 0, 60), ("flip", 60, 60), ("flip", 59, 60)],
            "turned": [("change", 1, 0, 59), ("change", 0, 1, 0)],
        }
        wrong = {
            "move": [("move", 0, 0, 60), ("move", 0, 60, 0), ("move", 0, 60, 60), ("move", 1, 61, 0)],
            "cut": [("cut", 61), ("cut", 62)],
            "flip": [("flip", 0, 61), ("flip", 61, 61), ("flip", 60, 59)],
            "turned": [("change", 0, 1, 60), ("change", 0, 1, 59), ("change", 1, 0, 61)],
        }
        for world in FURTHER:
            for edit in right[world]:
                after = list(text)
                slow_further_edit(after, edit)
                self.assertEqual(further_text(world, 2, edits + (edit,)), tuple(after))
            for edit in wrong[world] + [("put", 0), ("put", 1)]:
                self.assertEqual(error_of(further_text, world, 2, edits + (edit,)), bad("BadEdits", index=60), edit)

    def test_numbers_of_edits(self):
        for world, edit in (("cut", ("cut", 0)), ("flip", ("flip", 0, 0))):
            for many in (99, 100):
                self.assertEqual(further_text(world, 1, (edit,) * many), ())
                self.assertEqual(len(further_told(world, 1, (edit,) * many)), many)
            for many in (101, 1000):
                self.assertEqual(error_of(further_text, world, 1, (edit,) * many), bad("BadEdits", index=None))
                self.assertEqual(error_of(further_told, world, 1, (None,) * many), bad("BadEdits", index=None))
        edits = (("put", 0),) * 60
        self.assertEqual(len(further_text("move", 1, edits + (("move", 0, 0, 59),) * 40)), 60)
        for world in FURTHER:
            self.assertEqual(error_of(further_text, world, 1, edits + (("put", 0), None)), bad("BadEdits", index=60))

    def test_first_that_is_wrong(self):
        for world in FURTHER:
            for at in range(6):
                edits = puts("end", (0, 1) * 3)
                edits = edits[:at] + (("put", 2),) + edits[at:] + (None,)
                for call in CALLS:
                    self.assertEqual(error_of(call, world, 2, edits), bad("BadEdits", index=at))

    def test_no_edits_in_any_world(self):
        for world, call in itertools.product(FURTHER, CALLS):
            for at, value in enumerate(NO_EDITS):
                edits = (("put", 0), ("put", 1), value)
                self.assertEqual(error_of(call, world, 2, edits), bad("BadEdits", index=2), (world, at))

    def test_edits_of_other_worlds(self):
        text = (0, 1, 1)
        every = {world: done_further_edits(world, 2, text) for world in FURTHER}
        for world, other in itertools.product(FURTHER, FURTHER):
            for edit in every[other]:
                expected = None if edit in every[world] else bad("BadEdits", index=3)
                self.assertEqual(error_of(further_text, world, 2, puts("end", text) + (edit,)), expected)


class TestMessages(unittest.TestCase):
    def test_all(self):
        for world, letters in itertools.product(FURTHER, (1, 2, 3)):
            found = further_messages(world, letters)
            self.assertIs(type(found), tuple)
            self.assertEqual(list(found), slow_further_messages(world, letters))

    def test_written_out(self):
        self.assertEqual(further_messages("move", 2), (("move", 0), ("move", 1), ("put", 0), ("put", 1)))
        self.assertEqual(further_messages("cut", 2), (("cut",), ("put", 0), ("put", 1)))
        self.assertEqual(further_messages("flip", 3), (("flip",), ("put", 0), ("put", 1), ("put", 2)))
        self.assertEqual(further_messages("turned", 1), (("put", 0),))
        self.assertEqual(further_messages("turned", 2), (("change", 0, 1), ("change", 1, 0), ("put", 0), ("put", 1)))
        self.assertEqual([len(further_messages("turned", letters)) for letters in (1, 2, 3)], [1, 4, 9])


class TestCanKeep(unittest.TestCase):
    def check(self, question):
        for world in FURTHER:
            self.assertIs(can_keep_further(world, question), slow_can_keep_further(world, question), (world, question))

    def test_all_small(self):
        for letters, most in ((1, 3), (2, 2), (3, 1)):
            for many in range(1, most + 1):
                for question in all_questions(letters, many):
                    self.check(question)

    def test_any(self):
        for question in any_questions(2, 150):
            self.check(question)

    def test_commuting(self):
        chance = random.Random(3)
        kept = 0
        for _ in range(150):
            question = any_commuting(chance, chance.randint(1, 3), 14)
            self.assertTrue(commutes(small_of(question)))
            self.check(question)
            kept += can_keep_further("turned", question)
        self.assertTrue(30 < kept < 120, kept)

    def test_written_out(self):
        kept = {
            EVEN: "yy", SOME: "yn", LAST: "nn", ONLY: "yy", THREE: "yy", ring(40): "yy", PAIRS: "yy", TAILED: "yy",
            # One letter: nothing changes it.
            (1, ((1,), (1,)), (0, 1)): "yy", (1, ((1,), (2,), (3,), (1,)), (0, 1, 2, 3)): "yy",
            # How many letters, up to two; and whether there are two of letter 1.
            (2, ((1, 1), (2, 2), (2, 2)), (0, 0, 1)): "yy", (2, ((0, 1), (1, 2), (2, 2)), (0, 0, 1)): "yn",
            # Merging, but only states that do not last.
            (2, ((1, 1), (2, 3), (3, 2), (2, 3)), (0, 0, 0, 1)): "nn",
        }
        for question, told in kept.items():
            self.assertEqual([can_keep_further(world, question) for world in FURTHER], [told[0] == "y"] * 3 + [told[1] == "y"])

    def test_lasting_states_alone(self):
        # A letter of which nothing is counted but that there was one, ahead of states that last.
        chance = random.Random(4)
        both = {}
        for _ in range(100):
            for question in (any_commuting(chance, 2, 12), any_tailed(chance, 2, chance.randint(1, 3), (3,))):
                self.check(question)
                small = small_of(question)
                short = len(slow_lasting(small)) < len(small[1])
                case = (short, can_keep_further("turned", question))
                both[case] = both.get(case, 0) + 1
        self.assertEqual(set(both), set(itertools.product((True, False), repeat=2)))
        self.assertGreater(min(both.values()), 5, both)

    def test_of_the_least_question(self):
        # What is merged only among states that answer alike, or that are not come to.
        self.assertIs(can_keep_further("turned", (2, ((1, 1), (1, 1)), (0, 0))), True)
        self.assertIs(can_keep_further("turned", (2, ((1, 0), (0, 1), (0, 0), (2, 3)), (1, 0, 2, 3))), True)
        self.assertIs(can_keep_further("move", (2, ((1, 2), (3, 3), (3, 3), (3, 3)), (0, 1, 1, 2))), True)


class TestKeeper(unittest.TestCase):
    def check_all(self, world, question, depth):
        """All edits up to so many: the keeper answers right behind each."""
        found = further_keeper(world, question)
        every = slow_further_messages(world, question[0])
        pairs = {((), 0)}
        for level in range(depth + 1):
            later = set()
            for text, state in pairs:
                self.assertEqual(found[1][state], slow_answer(question, text), (world, question, text))
                for edit in done_further_edits(world, question[0], text) if level < depth else ():
                    reached = list(text)
                    slow_further_edit(reached, edit)
                    later.add((tuple(reached), found[0][state][every.index(further_message_of(edit))]))
            pairs = later
        return found

    def check_form(self, world, question, found):
        self.assertEqual([type(found), type(found[0]), type(found[1])], [tuple] * 3)
        self.assertEqual(len(found[0]), len(found[1]))
        self.assertTrue(1 <= len(found[0]) <= 3000)
        for row, told in zip(*found):
            self.assertIs(type(row), tuple)
            self.assertEqual(len(row), len(slow_further_messages(world, question[0])))
            self.assertTrue(all(type(state) is int and 0 <= state < len(found[0]) for state in row))
            self.assertTrue(type(told) is int and 0 <= told <= 3)

    def check(self, question, depth):
        for world in FURTHER:
            if slow_can_keep_further(world, question):
                self.check_form(world, question, self.check_all(world, question, depth))
            else:
                self.assertEqual(error_of(further_keeper, world, question), bad("NoKeeper"), (world, question))

    def test_all_small(self):
        for letters, most in ((1, 2), (2, 1), (3, 1)):
            for many in range(1, most + 1):
                for question in all_questions(letters, many):
                    self.check(question, 4)
        for question in itertools.islice(all_questions(2, 2), 0, None, 3):
            self.check(question, 4)

    def test_commuting(self):
        chance = random.Random(5)
        for letters, times in ((1, 10), (2, 25), (3, 6)):
            for _ in range(times):
                self.check(any_commuting(chance, letters, 10), 4)
                self.check(any_tailed(chance, letters, chance.randint(1, 4), chance.choice(((1,), (3,), (2, 2)))), 4)
        for question in (EVEN, SOME, THREE, PAIRS, TAILED, LAST):
            self.check(question, 4)

    def test_long_histories(self):
        chance = random.Random(6)
        tried = [EVEN, SOME, THREE, PAIRS, TAILED, ring(40), ring(7, (1, 0, 0, 2, 0, 3, 0))]
        tried += [any_commuting(chance, letters, 16) for letters in (1, 2, 3) for _ in range(15)]
        tried += [any_tailed(chance, letters, 4, (2, 2)) for letters in (1, 2, 3) for _ in range(15)]
        tried += [any_tailed(chance, letters, 5, (4,)) for letters in (1, 2) for _ in range(15)]
        right = 0
        for question, world in itertools.product(tried, FURTHER):
            if not slow_can_keep_further(world, question):
                continue
            found = further_keeper(world, question)
            every = slow_further_messages(world, question[0])
            for longest in (4, 12, 60):
                edits, _ = any_further_edits(chance, world, question[0], chance.randint(40, 100), longest)
                states = slow_states(found, every, [further_message_of(edit) for edit in edits])
                text = []
                for edit, state in zip((None,) + edits, states):
                    if edit:
                        slow_further_edit(text, edit)
                    self.assertEqual(found[1][state], slow_answer(question, text), (world, question, edits))
                    right += 1
        self.assertGreater(right, 10000)

    def test_counts_of_short_texts(self):
        # So many letters, of any kind, up to a number: the last state alone is lasting.
        for letters, most, many in ((1, 39, 40), (2, 5, 16), (2, 39, 781), (3, 4, 21), (3, 25, 2926)):
            question = self.length_up_to(letters, most)
            found = further_keeper("turned", question)
            self.check_form("turned", question, found)
            self.assertLessEqual(len(found[0]), many)
            self.assertEqual(len(further_keeper("move", question)[0]), most + 1)

    def length_up_to(self, letters, most):
        """The question whether there are so many letters, or more."""
        steps = tuple((min(state + 1, most),) * letters for state in range(most + 1))
        return letters, steps, (0,) * most + (1,)

    def test_too_many(self):
        for most in (26, 27, 39):
            question = self.length_up_to(3, most)
            self.assertIs(can_keep_further("turned", question), True)
            self.assertEqual(error_of(further_keeper, "turned", question), bad("TooMany", most=3000))
            # The order alone does not change it.
            for world in ("move", "cut", "flip"):
                self.assertIsNone(error_of(further_keeper, world, question))
        self.assertIsNone(error_of(further_keeper, "turned", self.length_up_to(3, 25)))

    def test_no_keeper_ahead_of_too_many(self):
        # Long counts, and one more letter than may be forgotten.
        steps = tuple((min(state + 1, 39), state, state) for state in range(40))
        self.assertEqual(error_of(further_keeper, "turned", (3, steps, (0,) * 39 + (1,))), bad("NoKeeper"))

    def test_of_the_least_question(self):
        doubled = (2, ((1, 2), (0, 3), (3, 0), (2, 1)), (1, 0, 1, 0))
        for world in FURTHER:
            if can_keep_further(world, doubled):
                found = further_keeper(world, doubled)
                self.assertEqual(len(found[0]), len(further_keeper(world, slow_least(doubled))[0]))


class TestWrong(unittest.TestCase):
    def test_arguments(self):
        questions = [(value, bad("BadQuestion", part=part)) for value, part in WRONG_QUESTIONS]
        for world in FURTHER:
            check_arguments(self, further_messages, [world, 2], [WRONG_FURTHER, WRONG_LETTERS])
            check_arguments(self, can_keep_further, [world, EVEN], [WRONG_FURTHER, questions])
            check_arguments(self, further_keeper, [world, EVEN], [WRONG_FURTHER, questions])
        for world, call in itertools.product(("move", "turned"), CALLS):
            check_arguments(self, call, [world, 2, (("put", 0),)], [WRONG_FURTHER, WRONG_LETTERS, WRONG_EDITS])
        # BadQuestion, not NoKeeper.
        self.assertEqual(error_of(further_keeper, "turned", (2, SOME[1], (0, 4))), bad("BadQuestion", part="answers"))


class TestUnchanged(unittest.TestCase):
    def test_wrong_arguments(self):
        for value in ([[1, 0], [0, 1]], {0: [1]}, [["put", 0]], (["put", 0],), [], {}, ("put", [0])):
            before = copy.deepcopy(value)
            for world in FURTHER:
                for call in CALLS:
                    self.assertIsNotNone(error_of(call, world, 2, value))
                    self.assertIsNotNone(error_of(call, world, value, value))
                for call in (further_messages, can_keep_further, further_keeper):
                    self.assertIsNotNone(error_of(call, world, value))
            self.assertEqual(value, before)

    def test_again_the_same(self):
        chance = random.Random(7)
        for world in FURTHER:
            for _ in range(8):
                question = any_commuting(chance, 2, 10)
                edits = any_further_edits(chance, world, 2, 20)[0]
                kept = copy.deepcopy((question, edits))
                found = [further_text(world, 2, edits), further_told(world, 2, edits), can_keep_further(world, question)]
                again = [further_text(world, 2, edits), further_told(world, 2, edits), can_keep_further(world, question)]
                self.assertEqual(found, again)
                if found[2]:
                    self.assertEqual(further_keeper(world, question), further_keeper(world, question))
                self.assertEqual((question, edits), kept)

    def test_kinds(self):
        for world in FURTHER:
            self.assertIs(type(can_keep_further(world, EVEN)), bool)
            self.assertIs(type(can_keep_further(world, LAST)), bool)


if __name__ == "__main__":
    unittest.main()

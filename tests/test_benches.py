import copy
import itertools
import random
import unittest

from helpers import (
    DEEP, DEEP_LIST, EVEN, LAST, NEVER, ONLY, PLACED, SOME, THREE, WORLDS, WRONG_QUESTIONS, WRONG_WORLDS, any_question,
    bad, check_arguments, done_edits, error_of, group, message_of, put, puts, ring, slow_answer, slow_can_keep,
    slow_edit, slow_messages, slow_states,
)
from toldwhat import benches
from toldwhat.benches import Bench
from toldwhat.errors import BadStep
from toldwhat.keepers import keep, keeper
from toldwhat.worlds import text_after, told

PAIRS = group((2, 4), ((1, 0), (0, 1), (1, 3)), lambda total: int(total == (1, 3)))

NOT_EDITS = NEVER + (
    (), ("put",), ("put", 2), ("put", -1), ("put", True), ("put", False, 0), ("put", None), ("put", "0"), ("put", (0,)),
    ("put", [0]), ["put", 0], ["put", 0, 0], ("put", 0, None), ("put", 0, True), ("put", 0, -1), ("put", 0, 61),
    ("put", 0, 0, 0), ("Put", 0), ("putt", 0, 0), ("move", 0, 0, 0), ("cut", 0), ("flip", 0, 0), ("change", 0, 1, 0),
    ("put", 10 ** 5000), ("put", 0, 10 ** 5000), ("put", DEEP), ("put", 0, DEEP), ("put", 0, DEEP_LIST), (DEEP,), DEEP,
    (("put", 0),), (("put", 0, 0),), {("put", 0): 0}, ("turn", 0), ("turn", (0, 0)), ("turn", (0,)), ("turn", (0, 1, 2)),
    ("turn", [1, 0]), ("turn", (True, False)), ("turn", DEEP), ("chop",), ("take", 0), ("chop", 0, 0), (DEEP_LIST, 0),
)


def kept_questions(seed):
    """Pairs of a world and a question that can be kept there by few states, for one to three letters."""
    chance = random.Random(seed)
    tried = [EVEN, SOME, LAST, ONLY, THREE, PAIRS, ring(5, (0, 1, 2, 3, 0))]
    tried += [any_question(chance, letters, many, 4) for letters, many in ((1, 4), (2, 3), (3, 2))]
    for world, question in itertools.product(WORLDS, tried):
        if slow_can_keep(world, question):
            yield world, question


class TestInterface(unittest.TestCase):
    def test_example(self):
        bench = Bench("inout", (2, ((1, 0), (0, 1)), (1, 0)))
        found = [
            bench.edit(("put", 0, 0)), bench.edit(("put", 1, 0)), bench.text, bench.edit(("take", 0, 1)), bench.undo(),
            bench.memory, bench.row,
        ]
        self.assertEqual(found, [0, 0, (1, 0), 1, None, 1, (("put", 0), ("put", 1))])
        self.assertEqual(error_of(bench.edit, ("take", 0, 0)), ("BadStep", {}))

    def test_defined_here(self):
        self.assertEqual(Bench.__module__, "toldwhat.benches")
        self.assertIs(benches.Bench, Bench)
        for name in ("edit", "undo", "__init__"):
            self.assertTrue(callable(vars(Bench)[name]))
        for name in ("text", "memory", "row"):
            self.assertIsInstance(vars(Bench)[name], property)

    def test_names_of_arguments(self):
        bench = Bench(world="end", question=EVEN)
        self.assertEqual(bench.edit(edit=("put", 0)), 0)

    def test_new(self):
        for world, question in kept_questions(1):
            bench = Bench(world, question)
            self.assertEqual([bench.text, bench.memory, bench.row], [(), 0, ()])
            for value in (bench.text, bench.row):
                self.assertIs(type(value), tuple)


class TestBench(unittest.TestCase):
    def check(self, bench, world, question, man, edits):
        """The bench stands behind these edits, however many, by the functions where they can tell it, else slowly."""
        every = slow_messages(world, question[0])
        row = tuple(message_of(edit) for edit in edits)
        text = []
        for edit in edits:
            slow_edit(text, edit)
        self.assertEqual(bench.text, tuple(text))
        self.assertEqual(bench.row, row)
        self.assertEqual(bench.memory, slow_states(man, every, row)[-1])
        if len(edits) <= 100:
            self.assertEqual(bench.text, text_after(world, question[0], edits))
            self.assertEqual(bench.row, told(world, question[0], edits))
            answer = keep(world, question[0], man, row)[-1]
            self.assertEqual(man[1][bench.memory], answer)
        self.assertEqual(man[1][bench.memory], slow_answer(question, text))

    def walk(self, chance, world, question, many, longest):
        bench = Bench(world, question)
        man = keeper(world, question)
        edits = ()
        for _ in range(many):
            if chance.randrange(3) == 0:
                if edits:
                    self.assertIsNone(bench.undo())
                else:
                    self.assertEqual(error_of(bench.undo), bad("BadStep"))
                edits = edits[:-1]
            elif chance.randrange(6) == 0:
                value = chance.choice(NOT_EDITS)
                if type(value) is tuple and value in done_edits(world, question[0], list(bench.text)):
                    continue
                self.assertEqual(error_of(bench.edit, value), bad("BadStep"), (world, question))
            else:
                every = done_edits(world, question[0], list(bench.text))
                if len(bench.text) == longest:
                    every = [edit for edit in every if edit[0] not in ("put", "front")]
                if not every:
                    continue
                edits += (chance.choice(every),)
                answer = bench.edit(edits[-1])
                self.assertIs(type(answer), int)
                self.assertEqual(answer, slow_answer(question, bench.text))
            self.check(bench, world, question, man, edits)
        return bench, edits

    def test_any_steps(self):
        chance = random.Random(2)
        for world, question in kept_questions(3):
            bench, edits = self.walk(chance, world, question, 60, 60)
            for _ in edits:
                bench.undo()
            self.assertEqual(error_of(bench.undo), bad("BadStep"))
            self.assertEqual([bench.text, bench.memory, bench.row], [(), 0, ()])

    def test_back_to_the_beginning(self):
        for world, question in kept_questions(4):
            letters = question[0]
            bench = Bench(world, question)
            man = keeper(world, question)
            edits = puts(world, (0, letters - 1, 0, letters - 1))
            stood = []
            for edit in edits:
                stood.append((bench.text, bench.memory, bench.row))
                bench.edit(edit)
            for before in reversed(stood):
                self.assertIsNone(bench.undo())
                self.assertEqual((bench.text, bench.memory, bench.row), before)
            for _ in range(3):
                self.assertEqual(error_of(bench.undo), bad("BadStep"))
                self.assertEqual((bench.text, bench.memory, bench.row), ((), 0, ()))
            # And on from there.
            for edit in edits:
                bench.edit(edit)
            self.check(bench, world, question, man, edits)

    def test_other_edits_behind_undo(self):
        bench = Bench("stack", EVEN)
        self.assertEqual([bench.edit(("put", 0)), bench.edit(("put", 1)), bench.edit(("chop", 1))], [0, 0, 0])
        bench.undo()
        self.assertEqual(error_of(bench.edit, ("chop", 0)), bad("BadStep"))
        bench.undo()
        self.assertEqual(bench.edit(("chop", 0)), 1)
        self.assertEqual([bench.text, bench.row], [(), (("put", 0), ("chop", 0))])

    def test_turns_and_relabellings(self):
        bench = Bench("reverse", LAST)
        self.assertEqual([bench.edit(edit) for edit in (("put", 1), ("put", 0), ("turn",), ("turn",))], [1, 0, 1, 0])
        self.assertEqual([bench.text, bench.row[2:]], [(1, 0), (("turn",), ("turn",))])
        bench = Bench("relabel", LAST)
        self.assertEqual([bench.edit(edit) for edit in (("put", 1), ("turn", (1, 0)), ("turn", (0, 1)))], [1, 0, 0])
        self.assertEqual([bench.text, bench.row[1:]], [(0,), (("turn", (1, 0)), ("turn", (0, 1)))])
        bench.undo()
        bench.undo()
        self.assertEqual([bench.text, bench.row], [(1,), (("put", 1),)])

    def test_refused(self):
        """Behind each value that is no edit that can be done, the bench stands as it did."""
        for world, question in kept_questions(5):
            letters = question[0]
            for text in ((), (0,), (0, letters - 1)):
                bench = Bench(world, question)
                for edit in puts(world, text):
                    bench.edit(edit)
                stood = (bench.text, bench.memory, bench.row)
                every = done_edits(world, letters, list(text))
                for at, value in enumerate(NOT_EDITS):
                    if type(value) is tuple and (value in every) and not any(type(part) is bool for part in value):
                        continue
                    self.assertEqual(error_of(bench.edit, value), bad("BadStep"), (world, question, text, at))
                    self.assertEqual((bench.text, bench.memory, bench.row), stood)

    def test_edits_of_other_worlds(self):
        text = [0, 1, 1]
        every = {world: done_edits(world, 2, text) for world in WORLDS}
        for world, other in itertools.product(WORLDS, WORLDS):
            bench = Bench(world, EVEN)
            for edit in puts(world, text):
                bench.edit(edit)
            for edit in every[other]:
                stood = (bench.text, bench.memory, bench.row)
                if edit in every[world]:
                    self.assertIsNone(error_of(bench.edit, edit))
                    bench.undo()
                else:
                    self.assertEqual(error_of(bench.edit, edit), bad("BadStep"), (world, edit))
                self.assertEqual((bench.text, bench.memory, bench.row), stood)

    def test_wrong_letters_and_places(self):
        bench = Bench("inout", EVEN)
        for edit in puts("inout", (0, 1)):
            bench.edit(edit)
        for edit in (("take", 0, 1), ("take", 1, 0), ("take", 0, 2), ("put", 0, 3), ("put", 2, 0), ("take", 1, -1)):
            self.assertEqual(error_of(bench.edit, edit), bad("BadStep"), edit)
        bench = Bench("deque", EVEN)
        for edit in (("chop", 0), ("behead", 1)):
            self.assertEqual(error_of(bench.edit, edit), bad("BadStep"), edit)
        for letter in (0, 1):
            bench.edit(("put", letter))
        for edit in (("chop", 0), ("behead", 1)):
            self.assertEqual(error_of(bench.edit, edit), bad("BadStep"), edit)
        self.assertEqual(bench.text, (0, 1))

    def test_sixty_letters(self):
        for world in WORLDS:
            bench = Bench(world, EVEN)
            text = (0, 1) * 30
            for edit in puts(world, text):
                bench.edit(edit)
            stood = (bench.text, bench.memory, bench.row)
            self.assertEqual(bench.text, text)
            more = [put(world, 0, 60), put(world, 1, 60), ("front", 0), ("put", 0, 0), ("put", 0, 30)]
            for edit in more:
                self.assertEqual(error_of(bench.edit, edit), bad("BadStep"), (world, edit))
            self.assertEqual((bench.text, bench.memory, bench.row), stood)
            every = [edit for edit in done_edits(world, 2, list(text)) if edit[0] not in ("put", "front")]
            for edit in every[:3] + every[-3:]:
                self.assertEqual(bench.edit(edit), slow_answer(EVEN, bench.text))
                bench.undo()
            bench.undo()
            self.assertEqual(len(bench.text), 59)
            bench.edit(put(world, 1, 59))
            self.assertEqual((bench.text, bench.memory, bench.row), stood)

    def test_more_than_a_hundred_edits(self):
        chance = random.Random(6)
        for world in ("stack", "deque", "inout", "relabel", "reverse"):
            bench, edits = self.walk(chance, world, THREE, 700, 20)
            self.assertGreater(len(edits), 100, world)
            man = keeper(world, THREE)
            while edits:
                bench.undo()
                edits = edits[:-1]
                if len(edits) in (0, 1, 99, 100, 101):
                    self.check(bench, world, THREE, man, edits)

    def test_benches_by_themselves(self):
        one, other = Bench("end", EVEN), Bench("end", EVEN)
        one.edit(("put", 0))
        self.assertEqual([other.text, other.memory, other.row], [(), 0, ()])
        self.assertEqual(error_of(other.undo), bad("BadStep"))
        row, text = one.row, one.text
        one.edit(("put", 1))
        self.assertEqual([row, text], [(("put", 0),), (0,)])

    def test_numbers_of_memories(self):
        # The keeper's states as keeper numbers them: by chop 0, the first message, the last of them is come to first.
        bench = Bench("stack", ring(4, (0, 1, 2, 3)))
        self.assertEqual([bench.edit(("put", 0)), bench.memory], [1, 2])
        self.assertEqual([bench.edit(("put", 0)), bench.memory], [2, 3])
        self.assertEqual([bench.edit(("chop", 0)), bench.memory], [1, 2])


class TestWrong(unittest.TestCase):
    def test_arguments(self):
        questions = [(value, bad("BadQuestion", part=part)) for value, part in WRONG_QUESTIONS]
        for world in ("end", "inout"):
            check_arguments(self, Bench, [world, EVEN], [WRONG_WORLDS, questions])

    def test_no_keeper(self):
        for world in WORLDS:
            for question in (EVEN, SOME, LAST, THREE):
                expected = None if slow_can_keep(world, question) else bad("NoKeeper")
                self.assertEqual(error_of(Bench, world, question), expected)
        # BadQuestion, not NoKeeper.
        self.assertEqual(error_of(Bench, "inout", (2, SOME[1], (0, 4))), bad("BadQuestion", part="answers"))
        self.assertEqual(error_of(Bench, "move", SOME), bad("BadWorld"))

    def test_too_many(self):
        swap = (1, 0, 2, 3, 4, 5, 6)
        orders = (2, tuple((swap[state], (state + 1) % 7) for state in range(7)), (1, 0, 0, 0, 0, 0, 0))
        for world in ("ends", "deque", "reverse"):
            self.assertEqual(error_of(Bench, world, orders), bad("TooMany", most=3000))
        self.assertEqual(error_of(Bench, "in", orders), bad("NoKeeper"))
        self.assertIsNone(error_of(Bench, "stack", orders))

    def test_undo_takes_nothing(self):
        bench = Bench("end", EVEN)
        with self.assertRaises(BadStep):
            bench.undo()

    def test_unchanged(self):
        question = copy.deepcopy(EVEN)
        bench = Bench("in", question)
        edit = ("put", 0, 0)
        bench.edit(edit)
        for value in (["put", 0, 0], [["put", 0, 0]], {"put": [0]}, ["put", [0]], [], {}, ("put", [0], {})):
            before = copy.deepcopy(value)
            self.assertEqual(error_of(bench.edit, value), bad("BadStep"))
            self.assertEqual(value, before)
        self.assertEqual([question, edit, bench.row], [EVEN, ("put", 0, 0), (("put", 0),)])

    def test_again_the_same(self):
        chance = random.Random(7)
        for world in WORLDS:
            found = []
            edits, text = (), []
            for _ in range(20):
                every = done_edits(world, 2, text)
                edits += (chance.choice(every),)
                slow_edit(text, edits[-1])
            for _ in range(2):
                bench = Bench(world, EVEN)
                found.append([(bench.edit(edit), bench.text, bench.memory, bench.row) for edit in edits])
            self.assertEqual(found[0], found[1])

    def test_placed(self):
        for world in WORLDS:
            bench = Bench(world, EVEN)
            self.assertEqual(error_of(bench.edit, ("put", 0, 0)), None if world in PLACED else bad("BadStep"))
            bench = Bench(world, EVEN)
            self.assertEqual(error_of(bench.edit, ("put", 0)), bad("BadStep") if world in PLACED else None)


if __name__ == "__main__":
    unittest.main()

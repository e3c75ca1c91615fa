import copy
import itertools
import random
import unittest

from helpers import (
    DEEP, DEEP_LIST, EVEN, KEPT, NEVER, SOME, WORLDS, WRONG_KEEPERS, WRONG_LETTERS, WRONG_WORLDS, any_keeper, bad,
    check_arguments, error_of, slow_keep, slow_messages,
)
from toldwhat import slips
from toldwhat.keepers import keeper
from toldwhat.slips import doubled, lost

CALLS = (lost, doubled)

ROW = (("put", 1), ("put", 0), ("put", 1))

NOT_ROWS = (
    None, True, False, 0, 1, -1, 10 ** 5000, "", "put", [], [("put", 0)], {}, {("put", 0): 0}, DEEP_LIST,
    (("put", 0),) * 101, (None,) * 101,
)

NOT_MESSAGES = NEVER + (
    (), ("put",), ("put", 2), ("put", -1), ("put", True), ("put", None), ("put", "0"), ("put", [0]), ["put", 0],
    ("put", 0, 0), ("take", 0), ("chop", 0), ("front", 0), ("turn",), ("turn", (0, 1)), ("put", DEEP), DEEP,
)

NOT_SPOTS = (
    None, True, False, -1, 3, 4, 100, 10 ** 5000, -10 ** 5000, "", "1", (), (1,), [], [1], {}, {1: 1}, DEEP, DEEP_LIST,
)


def slow_slip(world, letters, man, row, spot, times):
    """The first number of a message at which a keeper answers otherwise, the one at a spot being told so many times."""
    def last_answer(told):
        return slow_keep(world, letters, man, told)[-1]

    for many in range(spot + 1, len(row) + 1):
        if last_answer(row[:many]) != last_answer(row[:spot] + (row[spot],) * times + row[spot + 1:many]):
            return many - 1
    return None


class TestInterface(unittest.TestCase):
    def test_examples(self):
        even = (((1, 0), (0, 1)), (1, 0))
        row = (("put", 1), ("put", 0), ("put", 1))
        found = [lost("end", 2, even, row, 1), lost("end", 2, even, row, 0), doubled("end", 2, even, row, 1)]
        self.assertEqual(found, [1, None, 1])

    def test_defined_here(self):
        for name in ("lost", "doubled"):
            self.assertEqual(getattr(slips, name).__module__, "toldwhat.slips")

    def test_names_of_arguments(self):
        for call in CALLS:
            self.assertEqual(call(world="end", letters=2, keeper=KEPT, row=ROW, spot=1), 1)


class TestSlips(unittest.TestCase):
    def check(self, world, letters, man, row):
        for spot in range(len(row)):
            found = lost(world, letters, man, row, spot)
            self.assertEqual(found, slow_slip(world, letters, man, row, spot, 0), (world, man, row, spot))
            found = doubled(world, letters, man, row, spot)
            self.assertEqual(found, slow_slip(world, letters, man, row, spot, 2), (world, man, row, spot))

    def test_any(self):
        chance = random.Random(91)
        for world, letters, many in itertools.product(WORLDS, (1, 2, 3), (1, 2, 4, 9)):
            every = slow_messages(world, letters)
            for length in (1, 2, 3, 6):
                man = any_keeper(chance, world, letters, many, chance.randint(1, 4))
                self.check(world, letters, man, tuple(chance.choice(every) for _ in range(length)))

    def test_all_short_rows(self):
        # A keeper who tells only late what he was told.
        late = (((1, 2), (3, 4), (5, 6), (7, 7), (7, 8), (7, 7), (8, 8), (7, 7), (8, 8)), (0, 0, 0, 0, 0, 0, 0, 1, 2))
        for length in range(1, 5):
            for text in itertools.product(range(2), repeat=length):
                self.check("in", 2, late, tuple(("put", letter) for letter in text))

    def test_by_hand(self):
        # 0 to 1 to 2 to 3 and on round, with an answer of 1 in state 3 alone.
        ring = (((1,), (2,), (3,), (0,)), (0, 0, 0, 1))
        row = (("put", 0),) * 6
        # Told: states 1 2 3 0 1 2. With one lost: one less behind it.
        self.assertEqual([lost("end", 1, ring, row, spot) for spot in range(6)], [2, 2, 2, 3, None, None])
        # With one twice: one more behind it.
        self.assertEqual([doubled("end", 1, ring, row, spot) for spot in range(6)], [1, 1, 2, 5, 5, 5])

    def test_at_once(self):
        # The one that is lost is told by the answer behind the one ahead of it.
        for spot in range(4):
            row = tuple(("put", int(at != spot)) for at in range(4))
            self.assertEqual(lost("end", 2, KEPT, row, spot), spot)
            self.assertEqual(doubled("end", 2, KEPT, row, spot), spot)

    def test_later(self):
        # He answers 1 once he was told of three letters.
        three = (((1,), (2,), (3,), (3,)), (0, 0, 0, 1))
        row = (("put", 0),) * 5
        self.assertEqual([lost("end", 1, three, row, spot) for spot in range(5)], [2, 2, 2, None, None])
        self.assertEqual([doubled("end", 1, three, row, spot) for spot in range(5)], [1, 1, None, None, None])

    def test_never(self):
        idle = (((0, 0),), (3,))
        for call, spot in itertools.product(CALLS, range(3)):
            self.assertIsNone(call("end", 2, idle, ROW, spot))
        some = keeper("in", SOME)
        row = (("put", 0),) * 4
        self.assertEqual([lost("in", 2, some, row, spot) for spot in range(4)], [0, None, None, None])
        self.assertEqual([doubled("in", 2, some, row, spot) for spot in range(4)], [None] * 4)

    def test_not_ahead_of_the_spot(self):
        # The answers ahead of the spot are what they are.
        man = (((1, 2), (0, 2), (2, 2)), (0, 1, 2))
        row = (("put", 0), ("put", 0), ("put", 1), ("put", 0))
        self.assertEqual([lost("end", 2, man, row, spot) for spot in range(4)], [0, 1, 2, None])
        self.assertEqual([doubled("end", 2, man, row, spot) for spot in range(4)], [0, 1, None, None])

    def test_first_and_last_message(self):
        even = keeper("inout", EVEN)
        row = (("put", 0),) + (("put", 1),) * 98 + (("take", 0),)
        self.assertEqual(len(row), 100)
        for call in CALLS:
            self.assertEqual(call("inout", 2, even, row, 0), 0)
            self.assertEqual(call("inout", 2, even, row, 99), 99)
            self.assertIsNone(call("inout", 2, even, row, 50))
            self.assertEqual(call("inout", 2, even, (("put", 0),), 0), 0)

    def test_a_hundred_messages(self):
        # Told twice there are 101.
        long = (tuple((min(at + 1, 150),) for at in range(151)), (0,) * 101 + (1,) * 50)
        row = (("put", 0),) * 100
        self.assertEqual([doubled("end", 1, long, row, spot) for spot in (0, 50, 99)], [99, 99, 99])
        self.assertEqual([lost("end", 1, long, row, spot) for spot in (0, 50, 99)], [None, None, None])
        self.check("end", 1, (((1,), (0,)), (0, 1)), row[:7])

    def test_messages_that_no_edits_have(self):
        even = keeper("stack", EVEN)
        row = (("chop", 0), ("chop", 1), ("chop", 0))
        self.assertEqual([lost("stack", 2, even, row, spot) for spot in range(3)], [0, None, 2])
        self.assertEqual([doubled("stack", 2, even, row, spot) for spot in range(3)], [0, None, 2])


class TestWrong(unittest.TestCase):
    def test_arguments(self):
        wrong = [
            WRONG_WORLDS, WRONG_LETTERS, [(value, bad("BadKeeper", index=index)) for value, index in WRONG_KEEPERS],
            [(value, bad("BadMessages", index=None)) for value in NOT_ROWS]
            + [((value,), bad("BadMessages", index=0)) for value in NOT_MESSAGES]
            + [(ROW[:2] + (value, None), bad("BadMessages", index=2)) for value in NOT_MESSAGES],
            [(value, bad("BadNumber")) for value in NOT_SPOTS],
        ]
        for call, world in itertools.product(CALLS, ("end", "in")):
            check_arguments(self, call, [world, 2, KEPT, ROW, 1], wrong)

    def test_spots_there_are(self):
        for call in CALLS:
            for many in (1, 2, 100):
                row = (("put", 1),) * many
                for spot in (0, many - 1):
                    self.assertIsNone(error_of(call, "end", 2, KEPT, row, spot))
                for spot in (-1, many, many + 1):
                    self.assertEqual(error_of(call, "end", 2, KEPT, row, spot), bad("BadNumber"))

    def test_no_messages(self):
        for call, spot in itertools.product(CALLS, (0, 1, -1, None)):
            self.assertEqual(error_of(call, "end", 2, KEPT, (), spot), bad("BadNumber"))

    def test_too_many_messages(self):
        for call in CALLS:
            self.assertEqual(error_of(call, "end", 2, KEPT, (("put", 1),) * 101, 0), bad("BadMessages", index=None))
            self.assertEqual(error_of(call, "end", 2, KEPT, (("put", 1),) * 101, None), bad("BadMessages", index=None))


class TestUnchanged(unittest.TestCase):
    def test_arguments(self):
        for call in CALLS:
            kept = copy.deepcopy([KEPT, ROW])
            self.assertEqual(call("end", 2, KEPT, ROW, 1), call("end", 2, KEPT, ROW, 1))
            self.assertEqual([KEPT, ROW], kept)
            for value in ([[1, 0], [0, 1]], {0: [1]}, [["put", 0]], (["put", 0],), [], {}):
                before = copy.deepcopy(value)
                for at in range(5):
                    arguments = ["end", 2, KEPT, ROW, 1]
                    arguments[at] = value
                    self.assertIsNotNone(error_of(call, *arguments))
                self.assertEqual(value, before)

    def test_kinds(self):
        for call in CALLS:
            self.assertIs(type(call("end", 2, KEPT, ROW, 1)), int)


if __name__ == "__main__":
    unittest.main()

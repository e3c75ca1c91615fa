import copy
import itertools
import random
import unittest

from helpers import (
    DEEP, DEEP_LIST, NEVER, NOT_LETTERS, NOT_WORLDS, PLACED, WORLDS, done_edits, error_of, put, puts, slow_edit,
)
from toldwhat import worlds
from toldwhat.worlds import messages, text_after, told

CALLS = (text_after, told)
PUTTING = ("end", "ends", "stack", "deque", "relabel", "reverse")

# Behind the text (0, 1) of two letters: an edit, the worlds in which it is one, the text, the message.
KINDS = (
    (("put", 0), PUTTING, (0, 1, 0), ("put", 0)),
    (("put", 1), PUTTING, (0, 1, 1), ("put", 1)),
    (("front", 0), ("ends", "deque"), (0, 0, 1), ("front", 0)),
    (("front", 1), ("ends", "deque"), (1, 0, 1), ("front", 1)),
    (("chop", 1), ("stack", "deque"), (0,), ("chop", 1)),
    (("behead", 0), ("deque",), (1,), ("behead", 0)),
    (("put", 0, 0), PLACED, (0, 0, 1), ("put", 0)),
    (("put", 1, 0), PLACED, (1, 0, 1), ("put", 1)),
    (("put", 0, 1), PLACED, (0, 0, 1), ("put", 0)),
    (("put", 1, 1), PLACED, (0, 1, 1), ("put", 1)),
    (("put", 0, 2), PLACED, (0, 1, 0), ("put", 0)),
    (("put", 1, 2), PLACED, (0, 1, 1), ("put", 1)),
    (("take", 0, 0), ("inout",), (1,), ("take", 0)),
    (("take", 1, 1), ("inout",), (0,), ("take", 1)),
    (("turn", (0, 1)), ("relabel",), (0, 1), ("turn", (0, 1))),
    (("turn", (1, 0)), ("relabel",), (1, 0), ("turn", (1, 0))),
    (("turn",), ("reverse",), (1, 0), ("turn",)),
)

# Edits in no world, whatever the text, of two letters.
NO_EDITS = NEVER + (
    (), ("put",), ("front",), ("chop",), ("behead",), ("take",), ("turn", ()), ("turn", (0,)), ("turn", (0, 0)),
    ("turn", (1, 1)), ("turn", (0, 1, 2)), ("turn", (1, 2)), ("turn", (0, 2)), ("turn", (-1, 0)), ("turn", [1, 0]),
    ("turn", (True, False)), ("turn", (1, False)), ("turn", (True, 0)), ("turn", "10"), ("turn", None), ("turn", 0),
    ("turn", (0, 1), 0), ("turn", (1, None)), ("turn", ((0,), (1,))), ("turn", {0: 1, 1: 0}), ("turn", (0, "1")),
    ("turn", DEEP), ("turn", DEEP_LIST), ("turn", (0, DEEP)), ("turn", (0, 10 ** 5000)),
    ("put", 2), ("put", -1), ("put", True), ("put", False), ("put", None), ("put", "0"), ("put", "a"), ("put", (0,)),
    ("put", [0]), ("put", {}), ("put", DEEP), ("put", DEEP_LIST), ("put", 10 ** 5000), ("put", -10 ** 5000),
    ("front", 2), ("front", True), ("front", None), ("front", 0, 0), ("chop", 1, 1), ("behead", 0, 0),
    ("chop", True), ("chop", 2), ("chop", None), ("behead", False), ("behead", 2), ("behead", None),
    ("put", 2, 0), ("put", -1, 0), ("put", True, 0), ("put", None, 0), ("put", 0, True), ("put", 0, False),
    ("put", 0, None), ("put", 0, "0"), ("put", 0, -1), ("put", 0, 3), ("put", 0, 61), ("put", 0, 10 ** 5000),
    ("put", 0, -10 ** 5000), ("put", 0, (0,)), ("put", 0, [0]), ("put", 0, DEEP), ("put", 0, 0, 0), ("put", (0, 0)),
    ("take", 0), ("take", 0, 1), ("take", 1, 0), ("take", 0, 2), ("take", 1, 2), ("take", 1, -1), ("take", 0, -2),
    ("take", False, 0), ("take", True, 1), ("take", 0, False), ("take", 1, True), ("take", 0, None), ("take", None, 0),
    ("take", 1, 10 ** 5000), ("take", 0, 0, 0), ("take", 0, "0"), ("take", 0, DEEP_LIST), ("take", DEEP, 0),
    ("chop", 0), ("behead", 1), ("Put", 0), ("PUT", 0), (" put", 0), ("", 0), (None, 0), (0, 0), (0, "put"),
    (("put",), 0), (["put"], 0), ({}, 0), (DEEP, 0), (DEEP_LIST, 0), ("move", 0, 0, 1), ("cut", 1), ("flip", 0, 1),
    ("change", 0, 1, 0), ("put, 0",), ["put", 0], ["put", 0, 0], "put", "put 0", {"put": 0}, {0: "put", 1: 0},
    ["turn"], ("turn", 0, 1), ("turn", None, 0), DEEP, (DEEP,), (("put", 0),), (("put", 0, 0),), (("turn",),),
)

NOT_EDITS = (
    None, True, False, 0, 1, -1, 10 ** 5000, "", "put", "put a", [], [("put", 0)], {}, {"put": 0}, {("put", 0): 0},
    DEEP_LIST,
)


class TestInterface(unittest.TestCase):
    def test_examples(self):
        self.assertEqual(
            [messages("stack", 2), messages("reverse", 1), messages("relabel", 2)],
            [
                (("chop", 0), ("chop", 1), ("put", 0), ("put", 1)),
                (("put", 0), ("turn",)),
                (("put", 0), ("put", 1), ("turn", (0, 1)), ("turn", (1, 0))),
            ],
        )
        edits = (("put", 0, 0), ("put", 1, 0), ("take", 0, 1))
        self.assertEqual(text_after("inout", 2, edits), (1,))
        self.assertEqual(told("inout", 2, edits), (("put", 0), ("put", 1), ("take", 0)))
        self.assertEqual(text_after("deque", 2, (("put", 0), ("front", 1), ("chop", 0))), (1,))
        self.assertEqual(error_of(text_after, "stack", 2, (("put", 0), ("chop", 1))), ("BadEdits", {"index": 1}))

    def test_defined_here(self):
        for name in ("messages", "told", "text_after"):
            self.assertEqual(getattr(worlds, name).__module__, "toldwhat.worlds")


class TestKinds(unittest.TestCase):
    def test_each_kind_in_each_world(self):
        for world, (edit, where, text, message) in itertools.product(WORLDS, KINDS):
            before = puts(world, (0, 1))
            edits = before + (edit,)
            if world in where:
                self.assertEqual(text_after(world, 2, edits), text, (world, edit))
                self.assertEqual(told(world, 2, edits), (("put", 0), ("put", 1), message), (world, edit))
            else:
                for call in CALLS:
                    self.assertEqual(error_of(call, world, 2, edits), ("BadEdits", {"index": 2}), (world, edit))

    def test_no_edits_in_any_world(self):
        for world in WORLDS:
            for at, edit in enumerate(NO_EDITS):
                for call in CALLS:
                    found = error_of(call, world, 2, puts(world, (0, 1)) + (edit,))
                    self.assertEqual(found, ("BadEdits", {"index": 2}), (world, at))

    def test_not_on_the_void_text(self):
        for world in WORLDS:
            for edit in (("chop", 0), ("behead", 0), ("take", 0, 0), ("take", 0, -1), ("put", 0, 1), ("put", 0, -1)):
                for call in CALLS:
                    self.assertEqual(error_of(call, world, 2, (edit,)), ("BadEdits", {"index": 0}), (world, edit))

    def test_not_off_a_text_made_void(self):
        for world, off in (("stack", ("chop", 1)), ("deque", ("chop", 1)), ("deque", ("behead", 1))):
            self.assertEqual(text_after(world, 2, (("put", 1), off)), ())
            self.assertEqual(error_of(text_after, world, 2, (("put", 1), off, off)), ("BadEdits", {"index": 2}))
        edits = (("put", 1, 0), ("take", 1, 0))
        self.assertEqual(text_after("inout", 2, edits), ())
        self.assertEqual(error_of(told, "inout", 2, edits + (("take", 1, 0),)), ("BadEdits", {"index": 2}))

    def test_on_the_void_text(self):
        for world in WORLDS:
            self.assertEqual(text_after(world, 1, ()), ())
            self.assertEqual(told(world, 1, ()), ())
            self.assertEqual(text_after(world, 2, (put(world, 1, 0),)), (1,))
        self.assertEqual(text_after("ends", 2, (("front", 1),)), (1,))
        self.assertEqual(text_after("deque", 2, (("front", 1),)), (1,))
        self.assertEqual(text_after("relabel", 2, (("turn", (1, 0)),)), ())
        self.assertEqual(text_after("reverse", 2, (("turn",),)), ())

    def test_places(self):
        for world in PLACED:
            before = puts(world, (0, 1, 0, 1))
            texts = [text_after(world, 3, before + (("put", 2, place),)) for place in range(5)]
            self.assertEqual(texts, [(2, 0, 1, 0, 1), (0, 2, 1, 0, 1), (0, 1, 2, 0, 1), (0, 1, 0, 2, 1), (0, 1, 0, 1, 2)])
            for place in (-1, -4, 5, 6, 60, 61, 10 ** 5000):
                self.assertEqual(error_of(text_after, world, 3, before + (("put", 2, place),)), ("BadEdits", {"index": 4}))
        before = puts("inout", (0, 1, 2))
        texts = [text_after("inout", 3, before + (("take", place, place),)) for place in range(3)]
        self.assertEqual(texts, [(1, 2), (0, 2), (0, 1)])
        for letter, place in itertools.product(range(3), (-3, -2, -1, 3, 4, 10 ** 5000)):
            edits = before + (("take", letter, place),)
            self.assertEqual(error_of(text_after, "inout", 3, edits), ("BadEdits", {"index": 3}))

    def test_another_letter(self):
        for letter in (1, 2):
            for world, edit in (("stack", ("chop", letter)), ("deque", ("chop", letter)), ("deque", ("behead", letter))):
                edits = (("put", 0), edit)
                self.assertEqual(error_of(text_after, world, 3, edits), ("BadEdits", {"index": 1}))
            edits = (("put", 0, 0), ("take", letter, 0))
            self.assertEqual(error_of(text_after, "inout", 3, edits), ("BadEdits", {"index": 1}))

    def test_which_end(self):
        before = (("put", 1), ("put", 0), ("front", 2))
        self.assertEqual(text_after("deque", 3, before), (2, 1, 0))
        self.assertEqual(text_after("ends", 3, before), (2, 1, 0))
        self.assertEqual(text_after("deque", 3, before + (("chop", 0),)), (2, 1))
        self.assertEqual(text_after("deque", 3, before + (("behead", 2),)), (1, 0))
        for edit in (("chop", 2), ("behead", 0)):
            self.assertEqual(error_of(text_after, "deque", 3, before + (edit,)), ("BadEdits", {"index": 3}))

    def test_turns(self):
        for row in itertools.permutations(range(3)):
            edits = puts("relabel", (0, 1, 2, 2)) + (("turn", row),)
            self.assertEqual(text_after("relabel", 3, edits), (row[0], row[1], row[2], row[2]))
        edits = puts("relabel", (0, 1)) + (("turn", (1, 2, 0)), ("put", 0), ("turn", (1, 2, 0)))
        self.assertEqual(text_after("relabel", 3, edits), (2, 0, 1))
        edits = puts("reverse", (0, 1)) + (("turn",), ("put", 2), ("turn",))
        self.assertEqual(text_after("reverse", 3, edits), (2, 0, 1))

    def test_rows_of_as_many_letters(self):
        for letters in (1, 2, 3):
            for many in (1, 2, 3):
                found = error_of(text_after, "relabel", letters, (("turn", tuple(range(many))),))
                self.assertEqual(found, None if many == letters else ("BadEdits", {"index": 0}))

    def test_letters_there_are(self):
        for world, letters in itertools.product(WORLDS, (1, 2, 3)):
            self.assertEqual(text_after(world, letters, (put(world, letters - 1, 0),)), (letters - 1,))
            found = error_of(text_after, world, letters, (put(world, letters, 0),))
            self.assertEqual(found, ("BadEdits", {"index": 0}))


class TestLimits(unittest.TestCase):
    def hundred(self, world):
        """A hundred edits of a world, with a text that stays short where it can."""
        if world in ("relabel", "reverse"):
            return (("turn", (1, 0)) if world == "relabel" else ("turn",),) * 100
        if world == "inout":
            return (("put", 0, 0), ("take", 0, 0)) * 50
        if world in ("stack", "deque"):
            return (("put", 0), ("chop", 0)) * 50
        return None

    def test_a_hundred_edits(self):
        for world in ("relabel", "reverse", "inout", "stack", "deque"):
            edits = self.hundred(world)
            self.assertEqual(len(edits), 100)
            self.assertEqual(text_after(world, 2, edits), ())
            self.assertEqual(told(world, 2, edits), tuple(edit[:2] for edit in edits))
            for call in CALLS:
                self.assertEqual(error_of(call, world, 2, edits + edits[:1]), ("BadEdits", {"index": None}))
                self.assertEqual(error_of(call, world, 2, (None,) + edits), ("BadEdits", {"index": None}))
                self.assertEqual(error_of(call, world, 2, edits[:99] + (None,)), ("BadEdits", {"index": 99}))

    def test_more_than_a_hundred_in_each_world(self):
        for world in WORLDS:
            for many in (101, 1000):
                edits = (put(world, 0, 0),) * many
                self.assertEqual(error_of(text_after, world, 2, edits), ("BadEdits", {"index": None}))

    def test_sixty_letters(self):
        for world in WORLDS:
            sixty = puts(world, (0, 1, 1) * 20)
            self.assertEqual(text_after(world, 2, sixty), (0, 1, 1) * 20)
            self.assertEqual(len(told(world, 2, sixty)), 60)
            for call in CALLS:
                found = error_of(call, world, 2, sixty + (put(world, 1, 60),))
                self.assertEqual(found, ("BadEdits", {"index": 60}))
                found = error_of(call, world, 2, puts(world, (0,) * 100))
                self.assertEqual(found, ("BadEdits", {"index": 60}))

    def test_sixty_letters_by_other_edits(self):
        for world in ("ends", "deque"):
            fronts = (("front", 0),) * 60
            self.assertEqual(text_after(world, 2, fronts), (0,) * 60)
            for edit in (("front", 1), ("put", 1)):
                self.assertEqual(error_of(text_after, world, 2, fronts + (edit,)), ("BadEdits", {"index": 60}))
        for world, place in itertools.product(PLACED, (0, 30, 59, 60)):
            sixty = puts(world, (0,) * 59) + (("put", 1, min(place, 59)),)
            self.assertEqual(text_after(world, 2, sixty), (0,) * min(place, 59) + (1,) + (0,) * (59 - min(place, 59)))
            self.assertEqual(error_of(text_after, world, 2, sixty + (("put", 0, place),)), ("BadEdits", {"index": 60}))

    def test_on_from_sixty_letters(self):
        for world, off in (("stack", ("chop", 0)), ("deque", ("behead", 0)), ("inout", ("take", 0, 59))):
            sixty = puts(world, (0,) * 60)
            self.assertEqual(text_after(world, 2, sixty + (off,)), (0,) * 59)
            self.assertEqual(text_after(world, 2, sixty + (off, put(world, 1, 59))), (0,) * 59 + (1,))
        sixty = puts("reverse", (0,) * 59 + (1,))
        self.assertEqual(text_after("reverse", 2, sixty + (("turn",),)), (1,) + (0,) * 59)
        sixty = puts("relabel", (0,) * 60)
        self.assertEqual(text_after("relabel", 2, sixty + (("turn", (1, 0)),)), (1,) * 60)


class TestMessages(unittest.TestCase):
    def test_written_out(self):
        puts_of = {
            1: (("put", 0),), 2: (("put", 0), ("put", 1)), 3: (("put", 0), ("put", 1), ("put", 2)),
        }
        rows = {1: ((0,),), 2: ((0, 1), (1, 0)), 3: ((0, 1, 2), (0, 2, 1), (1, 0, 2), (1, 2, 0), (2, 0, 1), (2, 1, 0))}
        for letters in (1, 2, 3):
            def words(word):
                return tuple((word, letter) for letter in range(letters))

            self.assertEqual(messages("end", letters), puts_of[letters])
            self.assertEqual(messages("in", letters), puts_of[letters])
            self.assertEqual(messages("ends", letters), words("front") + puts_of[letters])
            self.assertEqual(messages("stack", letters), words("chop") + puts_of[letters])
            expected = words("behead") + words("chop") + words("front") + puts_of[letters]
            self.assertEqual(messages("deque", letters), expected)
            self.assertEqual(messages("inout", letters), puts_of[letters] + words("take"))
            self.assertEqual(messages("reverse", letters), puts_of[letters] + (("turn",),))
            expected = puts_of[letters] + tuple(("turn", row) for row in rows[letters])
            self.assertEqual(messages("relabel", letters), expected)

    def test_ascending_and_each_once(self):
        for world, letters in itertools.product(WORLDS, (1, 2, 3)):
            found = messages(world, letters)
            self.assertIs(type(found), tuple)
            self.assertEqual(list(found), sorted(set(found)))

    def test_just_those_that_edits_have(self):
        for world, letters in itertools.product(WORLDS, (1, 2, 3)):
            every = set()
            for text in itertools.chain.from_iterable(itertools.product(range(letters), repeat=n) for n in range(3)):
                before = puts(world, text)
                for edit in done_edits(world, letters, text):
                    every.add(told(world, letters, before + (edit,))[-1])
            self.assertEqual(messages(world, letters), tuple(sorted(every)))


class TestRuns(unittest.TestCase):
    def test_told_beside_text_after(self):
        chance = random.Random(11)
        for world, letters, _ in itertools.product(WORLDS, (1, 2, 3), range(12)):
            text, edits = [], ()
            for _ in range(chance.randint(0, 60)):
                edit = chance.choice(done_edits(world, letters, text))
                slow_edit(text, edit)
                edits += (edit,)
            self.assertEqual(text_after(world, letters, edits), tuple(text), (world, edits))
            kept = tuple(edit[:2] if len(edit) == 3 else edit for edit in edits)
            self.assertEqual(told(world, letters, edits), kept)
            for message in kept:
                self.assertIn(message, messages(world, letters))

    def test_all_short_edits(self):
        # Of all edits there could be, just those that can be done are.
        for world in WORLDS:
            tried = [(word, letter) for word in ("put", "front", "chop", "behead", "take") for letter in range(3)]
            tried += [edit + (place,) for edit in tried for place in range(-1, 4)]
            tried += [("turn",)] + [("turn", row) for row in itertools.product(range(3), repeat=2)]
            for text in ((), (1,), (0, 1), (1, 1), (1, 0, 1)):
                before = puts(world, text)
                can = done_edits(world, 2, text)
                for edit in tried:
                    found = error_of(text_after, world, 2, before + (edit,))
                    self.assertEqual(found, None if edit in can else ("BadEdits", {"index": len(text)}), (world, edit))


class TestWrong(unittest.TestCase):
    def test_world(self):
        for at, value in enumerate(NOT_WORLDS):
            self.assertEqual(error_of(messages, value, 2), ("BadWorld", {}), at)
            for call in CALLS:
                self.assertEqual(error_of(call, value, 2, ()), ("BadWorld", {}), at)

    def test_letters(self):
        for at, value in enumerate(NOT_LETTERS):
            for world in WORLDS:
                self.assertEqual(error_of(messages, world, value), ("BadNumber", {}), at)
                for call in CALLS:
                    self.assertEqual(error_of(call, world, value, ()), ("BadNumber", {}), at)

    def test_edits(self):
        for world in WORLDS:
            for at, value in enumerate(NOT_EDITS):
                for call in CALLS:
                    self.assertEqual(error_of(call, world, 2, value), ("BadEdits", {"index": None}), at)

    def test_a_tuple_of_what_is_no_edit(self):
        for world in WORLDS:
            for at, value in enumerate(NO_EDITS):
                for call in CALLS:
                    self.assertEqual(error_of(call, world, 2, (value, value)), ("BadEdits", {"index": 0}), at)
            self.assertEqual(error_of(told, world, 2, put(world, 0, 0)), ("BadEdits", {"index": 0}))
            self.assertEqual(error_of(told, world, 2, DEEP), ("BadEdits", {"index": 0}))

    def test_first_wrong_edit(self):
        for world in WORLDS:
            good = puts(world, (0, 1, 0))
            for at in range(4):
                edits = good[:at] + (None,) + good[at:] + (("put", 9), None)
                for call in CALLS:
                    self.assertEqual(error_of(call, world, 2, edits), ("BadEdits", {"index": at}))

    def test_leftmost_first(self):
        for call in CALLS:
            self.assertEqual(error_of(call, "enD", 0, None), ("BadWorld", {}))
            self.assertEqual(error_of(call, None, 2, None), ("BadWorld", {}))
            self.assertEqual(error_of(call, {}, True, ()), ("BadWorld", {}))
            self.assertEqual(error_of(call, "end", 0, None), ("BadNumber", {}))
            self.assertEqual(error_of(call, "end", True, (None,)), ("BadNumber", {}))
            self.assertEqual(error_of(call, "end", 4, (("put", 0),) * 101), ("BadNumber", {}))
        self.assertEqual(error_of(messages, "enD", 0), ("BadWorld", {}))
        self.assertEqual(error_of(messages, [], None), ("BadWorld", {}))


class TestUnchanged(unittest.TestCase):
    def test_wrong_arguments(self):
        values = (
            [["put", 0]], (["put", 0],), [("put", 0)], {0: ("put", 0)}, (("put", [0]),), (("turn", [1, 0]),), [],
            (("put", 0), ["chop", 0]), (("put", 0, 0), ["take", 0, 0]), {},
        )
        for world, value in itertools.product(WORLDS, values):
            before = copy.deepcopy(value)
            for call in CALLS:
                self.assertEqual(error_of(call, world, 2, value)[0], "BadEdits")
                self.assertEqual(error_of(call, world, value, value)[0], "BadNumber")
                self.assertEqual(error_of(call, value, value, value)[0], "BadWorld")
            self.assertEqual(error_of(messages, world, value)[0], "BadNumber")
            self.assertEqual(error_of(messages, value, value)[0], "BadWorld")
            self.assertEqual(value, before)

    def test_again_the_same(self):
        for world in WORLDS:
            edits = puts(world, (0, 1, 1))
            kept = copy.deepcopy(edits)
            first = [text_after(world, 2, edits), told(world, 2, edits), messages(world, 2)]
            self.assertEqual([text_after(world, 2, edits), told(world, 2, edits), messages(world, 2)], first)
            self.assertEqual(edits, kept)

    def test_kinds(self):
        for world in WORLDS:
            for call in CALLS:
                self.assertIs(type(call(world, 2, ())), tuple)
                self.assertIs(type(call(world, 2, puts(world, (0, 1)))), tuple)
            for message in told(world, 2, puts(world, (0, 1))) + messages(world, 2):
                self.assertIs(type(message), tuple)


if __name__ == "__main__":
    unittest.main()

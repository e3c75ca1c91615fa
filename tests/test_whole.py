"""What the document promises over the whole program: the names there are, any value, the same again, nothing changed."""

import copy
import importlib
import inspect
import itertools
import random
import unittest

from helpers import DEEP, DEEP_LIST, EVEN, KEPT, LAST, NEVER, SOME, THREE, VOID, bad, error_of
from toldwhat.errors import KeeperError

IDLE = (((0, 0, 0),), (0,))
ROW = (("put", 1), ("put", 0), ("put", 1))
ASK = ("and", ("ends", (0,)), ("not", ("sum", (1, 0), 2, 1)))
WRONG = (((0, 0),), (0,))

# Each function of the interface by its file: its arguments, and a call or some.
INTERFACE = {
    "questions": {
        "state_of": (("question", "text"), [(EVEN, (0, 1)), (SOME, ())]),
        "answer": (("question", "text"), [(EVEN, (0, 1)), (THREE, (2, 2, 1))]),
        "least": (("question",), [(EVEN,), ((1, ((1,), (2,), (0,)), (1, 1, 1)),)]),
        "are_alike": (("one", "other"), [(EVEN, SOME), (EVEN, EVEN)]),
        "parting_text": (("one", "other"), [(EVEN, SOME), (SOME, SOME)]),
        "maps": (("question",), [(EVEN,), (THREE,)]),
        "map_of": (("question", "text"), [(SOME, (0,)), (EVEN, (1, 0))]),
    },
    "worlds": {
        "text_after": (("world", "letters", "edits"), [("end", 2, (("put", 0), ("put", 1))), ("in", 2, (("put", 1, 0),))]),
        "told": (("world", "letters", "edits"), [("inout", 2, (("put", 1, 0), ("take", 1, 0)))]),
        "messages": (("world", "letters"), [("stack", 2), ("relabel", 3)]),
    },
    "keepers": {
        "can_keep": (("world", "question"), [("in", SOME), ("stack", SOME)]),
        "keeper": (("world", "question"), [("in", SOME), ("inout", EVEN), ("ends", LAST)]),
        "keep": (("world", "letters", "keeper", "row"), [("in", 2, KEPT, ROW)]),
    },
    "fools": {
        "reason": (("world", "question"), [("stack", SOME), ("in", LAST), ("in", SOME)]),
        "shows_reason": (("world", "question", "value"), [("stack", SOME, ("merge", (), (0,), 0, ())), ("in", SOME, None)]),
        "fool": (("world", "question", "keeper"), [("in", LAST, KEPT)]),
        "shows_fooled": (("world", "question", "keeper", "value"), [("in", LAST, KEPT, (("put", 1, 0),))]),
        "first_wrong": (("world", "question", "keeper", "most"), [("in", LAST, KEPT, 3)]),
        "shows_first_wrong": (("world", "question", "keeper", "most", "value"), [("in", LAST, KEPT, 3, ())]),
    },
    "sums": {
        "sums": (("question",), [(EVEN,), (THREE,)]),
        "shows_sums": (("question", "value"), [(EVEN, ((2,), ((1,), (0,)), {(0,): 1, (1,): 0})), (EVEN, None)]),
        "both": (("one", "other"), [(EVEN, SOME)]),
        "either_kept": (("world", "one", "other"), [("in", EVEN, SOME), ("inout", EVEN, SOME)]),
    },
    "slips": {
        "lost": (("world", "letters", "keeper", "row", "spot"), [("end", 2, KEPT, ROW, 1)]),
        "doubled": (("world", "letters", "keeper", "row", "spot"), [("end", 2, KEPT, ROW, 0)]),
    },
    "benches": {},
    "asks": {
        "is_true": (("letters", "ask", "text"), [(2, ASK, (0, 1)), (2, VOID, ())]),
        "question_of": (("letters", "ask"), [(2, ASK), (1, VOID)]),
    },
    "phrases": {
        "write_ask": (("letters", "ask"), [(2, ASK), (1, VOID)]),
        "read_ask": (("letters", "text"), [(2, "( ends a and not sum 1 0 mod 2 is 1 )"), (1, "void")]),
    },
    "further": {
        "further_text": (("world", "letters", "edits"), [("cut", 2, (("put", 0), ("put", 1), ("cut", 1)))]),
        "further_told": (("world", "letters", "edits"), [("turned", 2, (("put", 0), ("change", 0, 1, 0)))]),
        "further_messages": (("world", "letters"), [("turned", 3), ("flip", 1)]),
        "can_keep_further": (("world", "question"), [("cut", SOME), ("turned", SOME)]),
        "further_keeper": (("world", "question"), [("cut", SOME), ("turned", EVEN)]),
    },
    "misled": {
        "keep_further": (("world", "letters", "keeper", "row"), [("cut", 2, IDLE, (("cut",), ("put", 1)))]),
        "further_reason": (("world", "question"), [("turned", SOME), ("flip", LAST), ("flip", SOME)]),
        "shows_further_reason": (("world", "question", "value"), [("turned", SOME, ("merge", (1, 1), (0, 0), 0, ()))]),
        "mislead": (("world", "question", "keeper"), [("cut", LAST, IDLE), ("flip", LAST, IDLE)]),
        "shows_misled": (("world", "question", "keeper", "value"), [("cut", LAST, IDLE, (("put", 1),))]),
    },
    "chances": {
        "arrangements": (("question", "counts"), [(LAST, (2, 1)), (THREE, (1, 1, 1))]),
        "possible": (("question", "counts"), [(LAST, (2, 1))]),
        "is_sure": (("question", "counts"), [(LAST, (2, 1)), (EVEN, (2, 1))]),
        "sure_counts": (("question", "most"), [(LAST, 1), (EVEN, 2)]),
    },
    "tales": {
        "write_tale": (("world", "letters", "edits"), [("in", 2, (("put", 0, 0), ("put", 1, 0)))]),
        "read_tale": (("world", "letters", "text"), [("in", 2, "put a 0\nput b 0")]),
        "tale": (("world", "question", "edits"), [("in", EVEN, (("put", 0, 0), ("put", 1, 0)))]),
        "is_kept_true": (("world", "question", "edits"), [("in", EVEN, (("put", 0, 0), ("put", 1, 0)))]),
        "write_keeper": (("world", "letters", "keeper"), [("in", 2, KEPT)]),
        "read_keeper": (("world", "letters", "text"), [("in", 2, "1 : 1 0\n0 : 0 1")]),
    },
}

FUNCTIONS = [(file, name) for file, names in INTERFACE.items() for name in names]

# The errors that are about an argument of such a name.
ERRORS = {
    "world": ("BadWorld",), "letters": ("BadNumber",), "question": ("BadQuestion",), "one": ("BadQuestion",),
    "other": ("BadQuestion",), "keeper": ("BadKeeper",), "row": ("BadMessages",), "edits": ("BadEdits",), "ask": ("BadAsk",),
    "text": ("BadText", "BadString"), "spot": ("BadNumber",), "most": ("BadNumber",), "counts": ("BadNumber",), "value": (),
}

# Values of all kinds, right ones for some argument and wrong ones.
ANY = NEVER + (
    DEEP, (DEEP,), (DEEP_LIST,), EVEN, SOME, LAST, THREE, KEPT, IDLE, WRONG, ROW, ASK, VOID, (), (0,), (0, 1), (True, False), (None,),
    "in", "stack", "cut", "turned", "put a", "void", "1 : 0 0", ("put", 0), (("put", 0),), (("put", 0, 0),), (("cut",),), (("turn",),),
    ("order", (), 0, 1, ()), ("merge", (), (0,), 0, ()), ((2,), ((1,), (0,)), {(0,): 1, (1,): 0}), {"end": 1}, {(0,): {}}, ((),) * 5,
    (0,) * 61, (("put", 0),) * 101, (EVEN[0], EVEN[1], [1, 0]), (2, ((0, 0), (DEEP, 0)), (0, 0)), [(("put", 0),)], {0: DEEP_LIST},
)


def function(file, name):
    return getattr(importlib.import_module(f"toldwhat.{file}"), name)


def outcome(call, arguments):
    """What a call answers, or its error with its fields."""
    try:
        return "answer", call(*arguments)
    except KeeperError as error:
        return type(error).__name__, vars(error)


class TestNames(unittest.TestCase):
    def test_functions(self):
        for file, name in FUNCTIONS:
            call = function(file, name)
            self.assertEqual(call.__module__, f"toldwhat.{file}")
            self.assertEqual(tuple(inspect.signature(call).parameters), INTERFACE[file][name][0], name)

    def test_bench(self):
        bench = function("benches", "Bench")
        self.assertEqual(bench.__module__, "toldwhat.benches")
        self.assertEqual(tuple(inspect.signature(bench).parameters), ("world", "question"))
        self.assertEqual(tuple(inspect.signature(bench.edit).parameters), ("self", "edit"))

    def test_calls_are_right(self):
        for file, name in FUNCTIONS:
            for arguments in INTERFACE[file][name][1]:
                self.assertIsNone(error_of(function(file, name), *arguments), (name, arguments))


class TestAgain(unittest.TestCase):
    def test_the_same_in_any_order(self):
        calls = [(function(file, name), arguments) for file, name in FUNCTIONS for arguments in INTERFACE[file][name][1]]
        calls += [(call, arguments[:-1] + (None,)) for call, arguments in calls]
        kept = copy.deepcopy([arguments for _, arguments in calls])
        first = [repr(outcome(call, arguments)) for call, arguments in calls]
        chance = random.Random(1)
        order = list(range(len(calls)))
        for _ in range(4):
            chance.shuffle(order)
            for at in order:
                call, arguments = calls[at]
                self.assertEqual(repr(outcome(call, arguments)), first[at], (call, arguments))
                # And with equal arguments that are not the same ones.
                self.assertEqual(repr(outcome(call, copy.deepcopy(arguments))), first[at])
        self.assertEqual([arguments for _, arguments in calls], kept)

    def test_answers_that_are_changed(self):
        # What a caller does with a dict that was returned does not change the next answer.
        sums = function("sums", "sums")
        found = sums(EVEN)
        found[2].clear()
        self.assertEqual(sums(EVEN), ((2,), ((1,), (0,)), {(0,): 1, (1,): 0}))


class TestAnyValue(unittest.TestCase):
    def test_one_argument(self):
        """An answer, or an error of the package, whatever stands in one of the arguments."""
        for file, name in FUNCTIONS:
            call = function(file, name)
            for arguments in INTERFACE[file][name][1]:
                for place, value in itertools.product(range(len(arguments)), ANY):
                    outcome(call, arguments[:place] + (value,) + arguments[place + 1:])

    def test_all_arguments(self):
        chance = random.Random(2)
        for file, name in FUNCTIONS:
            call = function(file, name)
            many = len(INTERFACE[file][name][0])
            for _ in range(300):
                outcome(call, tuple(chance.choice(ANY) for _ in range(many)))

    def test_no_string_for_a_string(self):
        for file, name in (("phrases", "read_ask"), ("tales", "read_tale"), ("tales", "read_keeper")):
            good = INTERFACE[file][name][1][0]
            for value in ANY:
                if not isinstance(value, str):
                    self.assertEqual(error_of(function(file, name), *good[:-1], value), bad("BadString"), name)

    def test_shows(self):
        """A function whose name begins with shows returns True or False for any value of its last argument."""
        shows = [(file, name) for file, name in FUNCTIONS if name.startswith("shows")]
        self.assertEqual(len(shows), 6)
        for file, name in shows:
            for arguments in INTERFACE[file][name][1]:
                for value in ANY:
                    self.assertIs(type(function(file, name)(*arguments[:-1], value)), bool, name)

    def test_leftmost_first(self):
        """Of two wrong arguments the error is that of the leftmost one, whatever it is alone."""
        for file, name in FUNCTIONS:
            call = function(file, name)
            names, calls = INTERFACE[file][name]
            good = calls[0]
            wrong = [
                [value for value in ANY if outcome(call, good[:at] + (value,) + good[at + 1:])[0] in ERRORS[argument]]
                for at, argument in enumerate(names)
            ]
            for argument, values in zip(names, wrong):
                self.assertTrue(len(values) > 20 or argument == "value", (name, argument))
            for one, other in itertools.combinations(range(len(good)), 2):
                for at, value in enumerate(wrong[one]):
                    if not wrong[other]:
                        continue
                    alone = outcome(call, good[:one] + (value,) + good[one + 1:])
                    arguments = list(good)
                    arguments[one], arguments[other] = value, wrong[other][at % len(wrong[other])]
                    self.assertEqual(outcome(call, tuple(arguments)), alone, (name, one, other, at))

    def test_booleans_are_no_numbers(self):
        for file, name in FUNCTIONS:
            for arguments in INTERFACE[file][name][1]:
                for place, value in enumerate(arguments):
                    if type(value) is int:
                        for wrong in (True, False):
                            found = error_of(function(file, name), *arguments[:place], wrong, *arguments[place + 1:])
                            self.assertEqual(found, bad("BadNumber"), (name, place))


if __name__ == "__main__":
    unittest.main()

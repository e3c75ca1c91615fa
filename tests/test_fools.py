import copy
import itertools
import random
import unittest

from helpers import (
    DEEP, DEEP_LIST, EVEN, KEPT, LAST, NEVER, ONLY, SOME, THREE, WORLDS, WRONG_KEEPERS, WRONG_QUESTIONS, WRONG_WORLDS,
    all_questions, any_edits, any_keeper, any_question, any_questions, bad, changed, check_arguments, done_edits,
    error_of, group, is_text, message_of, puts, ring, short_texts, slow_answer, slow_can_keep, slow_edit, slow_keep,
    slow_messages, small_of, walked,
)
from toldwhat import fools
from toldwhat.errors import TooMany
from toldwhat.fools import first_wrong, fool, reason, shows_first_wrong, shows_fooled, shows_reason
from toldwhat.keepers import can_keep, keeper
from toldwhat.questions import least

LIMITED = ("stack", "deque", "in", "inout")
ORDERING = ("in", "inout")
MERGING = ("stack", "deque", "inout")

# Where the letters of a text come round once, ahead of and behind two of which the order counts: 77 letters in all.
FAR = (2, tuple(((state + 1) % 40, 37 if state == 38 else state) for state in range(40)), (0,) * 36 + (1, 0, 0, 0))

# Values that no function returns as a reason or as edits.
NOTHING = NEVER[1:] + (
    DEEP, (DEEP,), (DEEP_LIST,), (None,), ("order",), ("merge",), ("order", None, None, None, None), (0, 1, 2, 3, 4),
    ("order", (), 0, 1), ("merge", (), (0,), 0), ("order", DEEP, 0, 1, ()), ("order", (), DEEP, 1, DEEP),
    ("merge", DEEP, DEEP_LIST, {}, DEEP), ("order", (DEEP,), 0, 1, (DEEP_LIST,)), ((), (), (), (), ()),
    ("order", (10 ** 5000,), 10 ** 5000, -10 ** 5000, ()), ("merge", (), (), 10 ** 5000, ()), ["put", 0], [("put", 0)],
    [("put", 0, 0)], (["put", 0],), (["put", 0, 0],), (("put",),), (("put", 2),), (("put", 0, 1),), (("put", True),),
    (("put", True, 0),), (("put", 0, False),), (("put", DEEP),), (("put", 0, DEEP),), {("put", 0): 0}, ("put", 0),
)


def slow_shows(world, question, value):
    """Whether a value is a reason, by the document's words."""
    letters, small = question[0], small_of(question)
    if type(value) is not tuple or len(value) != 5:
        return False
    if value[0] == "order" and world in ORDERING:
        _, u, a, b, v = value
        if not all(is_text(text, letters) for text in (u, (a,), (b,), v)) or len(u) + len(v) + 2 > 160:
            return False
        return slow_answer(question, u + (a, b) + v) != slow_answer(question, u + (b, a) + v)
    if value[0] == "merge" and world in MERGING:
        _, u, w, a, v = value
        if not all(is_text(text, letters) for text in (u, w, (a,), v)) or len(u) + len(w) + len(v) + 1 > 160:
            return False
        one, other = walked(small, u + (a,)), walked(small, w + (a,))
        return one == other and slow_answer(question, u + v) != slow_answer(question, w + v)
    return False


def slow_fooled(world, question, man, value):
    """Whether a value is edits at whose end a keeper answers wrong, edit by edit."""
    if type(value) is not tuple or len(value) > 100:
        return False
    text = []
    for edit in value:
        if type(edit) is not tuple or any(type(part) is bool for part in edit):
            return False
        if edit not in done_edits(world, question[0], text):
            return False
        slow_edit(text, edit)
        if len(text) > 60:
            return False
    answers = slow_keep(world, question[0], man, [message_of(edit) for edit in value])
    return answers[-1] != slow_answer(question, text)


def slow_first(world, question, man, most):
    """How many edits are the fewest at whose end a keeper answers wrong, of all edits; None if there are none."""
    every = slow_messages(world, question[0])
    row = [((), 0)]
    for many in range(most + 1):
        if any(man[1][state] != slow_answer(question, text) for text, state in row):
            return many
        later = []
        for text, state in row:
            for edit in done_edits(world, question[0], text):
                reached = list(text)
                slow_edit(reached, edit)
                later.append((tuple(reached), man[0][state][every.index(message_of(edit))]))
        row = later
    return None


def count_pairs(world, letters, man, most):
    """How many unlike pairs of a text and a state at most so many edits lead to."""
    every = {message: at for at, message in enumerate(slow_messages(world, letters))}
    known, level = {((), 0)}, {((), 0)}
    for _ in range(most):
        later = set()
        for text, state in level:
            for edit in done_edits(world, letters, text):
                reached = list(text)
                slow_edit(reached, edit)
                later.add((tuple(reached), man[0][state][every[message_of(edit)]]))
        level = later - known
        known |= level
    return len(known)


def unkept(questions):
    """All pairs of a world and a question without a right keeper there."""
    for question in questions:
        for world in LIMITED:
            if not slow_can_keep(world, question):
                yield world, question


def some_questions(seed):
    """Small questions of one to three letters, most without a right keeper."""
    chance = random.Random(seed)
    yield from (SOME, LAST, EVEN, THREE)
    for letters, many, times in ((1, 2, 4), (1, 3, 6), (1, 5, 6), (2, 2, 8), (2, 3, 12), (2, 4, 8), (3, 2, 8), (3, 3, 6)):
        for _ in range(times):
            yield any_question(chance, letters, many, chance.randint(2, 4))


def knowing(world, question, depth):
    """A keeper who knows what he can be told of texts of so many letters, and stays as he is with longer ones."""
    def known(text):
        return tuple(sorted(text)) if world in ORDERING else text

    texts = sorted({known(text) for text in short_texts(question[0], depth)}, key=lambda text: (len(text), text))
    steps = []
    for text in texts:
        row = []
        for word, letter in slow_messages(world, question[0]):
            if word == "put":
                reached = known(text + (letter,))
            elif word == "front":
                reached = (letter,) + text
            elif word == "take":
                place = text.index(letter) if letter in text else len(text)
                reached = text[:place] + text[place + 1:]
            else:
                reached = text[:-1] if word == "chop" else text[1:]
            row.append(texts.index(reached) if reached in texts else texts.index(text))
        steps.append(tuple(row))
    return tuple(steps), tuple(slow_answer(question, text) for text in texts)


def counter(many, world="stack"):
    """A keeper of SOME who counts the letters 0 up to so many."""
    steps = []
    for state in range(many + 1):
        down, up = max(state - 1, 0), min(state + 1, many)
        steps.append((down, state, up, state) if world == "stack" else (up, state, down, state))
    return tuple(steps), (0,) + (1,) * many


class TestInterface(unittest.TestCase):
    def test_examples(self):
        some = (2, ((1, 0), (1, 1)), (0, 1))
        found = [shows_reason("stack", some, ("merge", (), (0,), 0, ())), reason("in", some), shows_reason("in", some, None)]
        self.assertEqual(found, [True, None, True])
        idle = (((0, 0, 0, 0),), (0,))
        found = [
            shows_fooled("stack", some, idle, fool("stack", some, idle)), len(first_wrong("stack", some, idle, 3)),
            shows_first_wrong("stack", some, idle, 3, (("put", 0),)),
        ]
        self.assertEqual(found, [True, 1, True])
        self.assertEqual(error_of(fool, "in", some, (((0, 0),), (0,))), ("Answerable", {}))

    def test_defined_here(self):
        for name in ("reason", "shows_reason", "fool", "shows_fooled", "first_wrong", "shows_first_wrong"):
            self.assertEqual(getattr(fools, name).__module__, "toldwhat.fools")

    def test_names_of_arguments(self):
        man = KEPT
        self.assertIsNone(reason(world="in", question=SOME))
        self.assertIs(shows_reason(world="in", question=SOME, value=None), True)
        found = fool(world="in", question=LAST, keeper=man)
        self.assertIs(shows_fooled(world="in", question=LAST, keeper=man, value=found), True)
        found = first_wrong(world="in", question=LAST, keeper=man, most=2)
        self.assertIs(shows_first_wrong(world="in", question=LAST, keeper=man, most=2, value=found), True)


class TestReason(unittest.TestCase):
    def check(self, world, question):
        found = reason(world, question)
        if slow_can_keep(world, question):
            self.assertIsNone(found, (world, question))
        else:
            self.assertTrue(slow_shows(world, question, found), (world, question, found))
        self.assertIs(shows_reason(world, question, found), True, (world, question, found))
        self.assertIs(shows_reason(world, question, None), found is None, (world, question))

    def test_all_small(self):
        for letters, most in ((1, 3), (2, 2), (3, 1)):
            for many in range(1, most + 1):
                for question in all_questions(letters, many):
                    for world in WORLDS:
                        self.check(world, question)

    def test_any(self):
        for question in itertools.chain(some_questions(31), any_questions(32, 60)):
            for world in WORLDS:
                self.check(world, question)

    def test_kinds_of_reason(self):
        for world, question in unkept(some_questions(33)):
            word = reason(world, question)[0]
            self.assertIn(word, {"in": ("order",), "inout": ("order", "merge")}.get(world, ("merge",)))
        # The order of letters alone, or the merging alone.
        orders = (2, ((1, 1), (0, 2), (2, 0)), (1, 0, 0))
        self.assertEqual(reason("inout", orders)[0], "order")
        self.assertEqual(reason("inout", SOME)[0], "merge")

    def test_all_short_values(self):
        texts = list(short_texts(2, 2))
        both = (2, ((1, 1), (0, 2), (2, 1)), (1, 0, 0))
        for world, question in itertools.product(WORLDS, (SOME, LAST, both)):
            for u, a, b, v in itertools.product(texts, range(2), range(2), texts):
                value = ("order", u, a, b, v)
                self.assertIs(shows_reason(world, question, value), slow_shows(world, question, value), (world, value))
            for u, w, a, v in itertools.product(texts, texts, range(2), texts[:3]):
                value = ("merge", u, w, a, v)
                self.assertIs(shows_reason(world, question, value), slow_shows(world, question, value), (world, value))

    def test_one_part_changed(self):
        chance = random.Random(34)
        refused = 0
        for world, question in unkept(some_questions(35)):
            found = reason(world, question)
            for _ in range(20):
                value = changed(found, chance, question[0])
                expected = slow_shows(world, question, value)
                refused += not expected
                self.assertIs(shows_reason(world, question, value), expected, (world, question, value))
        self.assertGreater(refused, 200)

    def test_parts_of_other_kinds(self):
        for world, question in unkept((SOME, LAST, THREE, any_question(random.Random(36), 3, 3))):
            found = reason(world, question)
            for at in range(5):
                for value in NEVER + (DEEP, (DEEP,), "order", "merge", (None,), (True,), (False,), (9,), (-1,), [0], ((0,),)):
                    if type(value) is int and value == found[at] or value in ("order", "merge") and at == 0:
                        continue
                    wrong = found[:at] + (value,) + found[at + 1:]
                    self.assertIs(shows_reason(world, question, wrong), slow_shows(world, question, wrong), (world, at))
            for wrong in (found[:4], found + ((),), list(found), (found,), {found[0]: found[1:]}):
                self.assertIs(shows_reason(world, question, wrong), False)

    def test_words_of_other_worlds(self):
        order, merge = ("order", (), 0, 1, ()), ("merge", (0,), (1,), 0, ())
        for world in WORLDS:
            self.assertIs(shows_reason(world, LAST, order), world in ORDERING)
            self.assertIs(shows_reason(world, LAST, merge), world in MERGING)
            self.assertIs(shows_reason(world, LAST, ("Order",) + order[1:]), False)

    def test_booleans(self):
        self.assertIs(shows_reason("in", LAST, ("order", (), False, True, ())), False)
        self.assertIs(shows_reason("in", LAST, ("order", (), 0, True, ())), False)
        self.assertIs(shows_reason("in", LAST, ("order", (True,), 0, 1, ())), False)
        self.assertIs(shows_reason("stack", LAST, ("merge", (False,), (1,), 0, ())), False)
        self.assertIs(shows_reason("stack", LAST, ("merge", (0,), (1,), False, ())), False)

    def test_number_of_letters(self):
        for many in (0, 1, 61, 157, 158, 159, 160, 10000):
            self.assertIs(shows_reason("in", LAST, ("order", (0,) * many, 0, 1, ())), many <= 158)
            self.assertIs(shows_reason("stack", LAST, ("merge", (0,) * many, (1,), 0, ())), many <= 158)
            self.assertIs(shows_reason("inout", LAST, ("merge", (1,), (0,) * many, 1, ())), many <= 158)
            self.assertIs(shows_reason("deque", SOME, ("merge", (), (0,), 0, (1,) * many)), many <= 158)
        both = (2, ((1, 2), (1, 1), (2, 2)), (0, 1, 2))
        for many in range(75, 85):
            value = ("order", (), 0, 1, (0, 1) * many)
            self.assertIs(shows_reason("in", both, value), 2 * many + 2 <= 160)

    def test_forty_states(self):
        chance = random.Random(37)
        tried = [FAR, ring(40), (1, tuple((min(state + 1, 39),) for state in range(40)), (0,) * 39 + (1,))]
        tried += [any_question(chance, letters, 40, 2) for letters in (1, 2, 3) for _ in range(3)]
        # A long way to the states that are merged, and a long one behind them.
        tried.append((1, tuple(((state + 1) % 40 or 1,) for state in range(40)), (0,) * 39 + (1,)))
        tried.append((2, tuple((min(state + 1, 39), max(state - 1, 0)) for state in range(40)), (1,) + (0,) * 39))
        for world, question in itertools.product(LIMITED, tried):
            found = reason(world, question)
            self.assertIs(found is None, can_keep(world, question))
            self.assertIs(shows_reason(world, question, found), True)
            if found:
                many = sum(1 if type(part) is int else len(part) for part in found[1:])
                self.assertLessEqual(many, 160)
                self.check_parts(least(question), found)

    def check_parts(self, small, found):
        if found[0] == "order":
            _, u, a, b, v = found
            self.assertNotEqual(slow_answer(small, u + (a, b) + v), slow_answer(small, u + (b, a) + v))
        else:
            _, u, w, a, v = found
            self.assertNotEqual(slow_answer(small, u + v), slow_answer(small, w + v))
            self.assertEqual(walked(small, u + (a,)), walked(small, w + (a,)))


class TestFool(unittest.TestCase):
    def check(self, world, question, man):
        many = 2 * (len(small_of(question)[1]) + len(man[0])) + 2
        try:
            found = fool(world, question, man)
        except TooMany as error:
            # Only where rows within the bound could be longer than a text may be.
            self.assertEqual(error.most, 100)
            self.assertGreater(many, 60, (world, question, man))
            return None
        self.assertTrue(slow_fooled(world, question, man, found), (world, question, man, found))
        self.assertIs(shows_fooled(world, question, man, found), True)
        self.assertLessEqual(len(found), many)
        return found

    def test_idle_keepers(self):
        for world, question in unkept(some_questions(41)):
            for told in range(4):
                man = (((0,) * len(slow_messages(world, question[0])),), (told,))
                self.assertIsNotNone(self.check(world, question, man))

    def test_any_keepers(self):
        chance = random.Random(42)
        for world, question in unkept(some_questions(43)):
            for many in (1, 2, 3, 5, 8, 12):
                man = any_keeper(chance, world, question[0], many, max(question[2]) + 1)
                self.assertIsNotNone(self.check(world, question, man))

    def test_right_keepers_of_other_questions(self):
        chance = random.Random(44)
        rows = [question for question in some_questions(45)]
        rows += [group((4,), ((1,), (3,)), lambda total: total[0] % 2), group((2, 2), ((1, 0), (0, 1)), lambda total: total[0])]
        for world, question in unkept(rows):
            others = [other for other in rows if other[0] == question[0] and can_keep(world, other)]
            for other in chance.sample(others, min(6, len(others))):
                man = keeper(world, other)
                if len(man[0]) < 20:
                    self.assertIsNotNone(self.check(world, question, man))

    def test_knowing_keepers(self):
        for world, question in unkept(some_questions(46)):
            for depth in range(4):
                self.check(world, question, knowing(world, question, depth))

    def test_right_where_letters_are_only_put(self):
        # Told of letters that are put in one behind the other these are right, whatever they do else.
        chance = random.Random(47)
        for world, question in unkept(some_questions(48)):
            small = small_of(question)
            every = slow_messages(world, question[0])
            for _ in range(4):
                steps = []
                for row in small[1]:
                    steps.append(tuple(
                        row[letter] if word == "put" else chance.randrange(len(small[1])) for word, letter in every
                    ))
                self.assertIsNotNone(self.check(world, question, (tuple(steps), small[2])))

    def test_counting_keepers(self):
        for world in ("stack", "inout"):
            for many in (1, 2, 10, 25, 40, 49):
                found = self.check(world, SOME, counter(many, world))
                self.assertIsNotNone(found, (world, many))
                # He is right as long as he counts.
                self.assertGreater(len(found), many)
            # To be told of fewer than these is not enough, and more cannot be told of.
            for many in (50, 60, 500, 2999):
                man = counter(many, world)
                self.assertEqual(error_of(fool, world, SOME, man), bad("TooMany", most=100))
                self.assertEqual(error_of(fool, world, EVEN, man), bad("Answerable"))

    def test_too_long_a_text(self):
        # Right for all texts: letters that are put in elsewhere bring the first wrong answer with 77 letters.
        man = (FAR[1], FAR[2])
        self.assertEqual(error_of(fool, "in", FAR, man), bad("TooMany", most=100))
        # One who never answers 1 is wrong behind far fewer.
        found = self.check("in", FAR, (((0, 0),), (0,)))
        self.assertEqual(len(found), 36)

    def test_shortest_of_many_orders(self):
        # As FAR, but of a third letter the order counts with few letters behind it.
        rows = tuple(row + (36 if state == 35 else state,) for state, row in enumerate(FAR[1]))
        question = (3, rows, FAR[2])
        for world in ORDERING:
            man = rows if world == "in" else tuple(row + row for row in rows)
            found = fool(world, question, (man, FAR[2]))
            self.assertTrue(slow_fooled(world, question, (man, FAR[2]), found))

    def test_how_often_a_letter_came(self):
        # One letter, which leads to 1, 2, 3 and round; keepers who count it up to a number and then go round, too.
        question = (1, ((1,), (2,), (3,), (1,)), (0, 0, 0, 1))
        for world, many in itertools.product(("stack", "inout"), range(8)):
            steps = []
            for state in range(many + 3):
                off, on = max(state - 1, 0), state + 1 if state < many + 2 else many
                steps.append((off, on) if world == "stack" else (on, off))
            man = tuple(steps), tuple(slow_answer(question, (0,) * state) for state in range(many + 3))
            self.assertIsNotNone(self.check(world, question, man))

    def test_many_states(self):
        chance = random.Random(49)
        for world, question in unkept((SOME, LAST, FAR, any_question(chance, 2, 40), any_question(chance, 3, 20))):
            for many in (40, 300, 3000):
                man = any_keeper(chance, world, question[0], many)
                try:
                    found = fool(world, question, man)
                except TooMany:
                    continue
                self.assertTrue(slow_fooled(world, least(question), man, found))

    def test_long_bounds_are_kept(self):
        # Just the sizes for which no row within the bound has more than 60 edits.
        chance = random.Random(50)
        for states in (2, 5, 14, 20, 27):
            for world in LIMITED:
                question = least(any_question(chance, 2, states))
                if can_keep(world, question):
                    continue
                for _ in range(3):
                    man = any_keeper(chance, world, 2, 29 - len(question[1]))
                    found = fool(world, question, man)
                    self.assertTrue(slow_fooled(world, question, man, found))
                    self.assertLessEqual(len(found), 60)

    def test_answerable(self):
        for question in itertools.chain(some_questions(51), (ONLY, ring(40))):
            for world in WORLDS:
                if slow_can_keep(world, question):
                    man = (((0,) * len(slow_messages(world, question[0])),), (3,))
                    self.assertEqual(error_of(fool, world, question, man), bad("Answerable"), (world, question))


class TestShowsFooled(unittest.TestCase):
    def test_any_edits(self):
        chance = random.Random(52)
        seen = {True: 0, False: 0}
        for question in some_questions(53):
            for world in WORLDS:
                man = any_keeper(chance, world, question[0], chance.randint(1, 6), max(question[2]) + 1)
                for _ in range(4):
                    edits = any_edits(chance, world, question[0], chance.randint(0, 100))[0]
                    expected = slow_fooled(world, question, man, edits)
                    seen[expected] += 1
                    self.assertIs(shows_fooled(world, question, man, edits), expected, (world, question, man, edits))
        self.assertGreater(min(seen.values()), 200)

    def test_however_many(self):
        idle = (((0, 0, 0, 0),), (0,))
        # The bound of fool is eight edits here.
        for many in (1, 3, 9, 30, 99):
            edits = (("put", 0),) + (("put", 0), ("chop", 0)) * (many // 2)
            self.assertIs(shows_fooled("stack", SOME, idle, edits), True)
        edits = (("put", 0), ("chop", 0)) * 50
        self.assertIs(shows_fooled("stack", SOME, (idle[0], (1,)), edits), True)
        self.assertIs(shows_fooled("stack", SOME, idle, edits), False)
        # With more than a hundred, or with a text of more than sixty letters, they are no edits.
        self.assertIs(shows_fooled("stack", SOME, (idle[0], (1,)), edits + (("put", 1),)), False)
        self.assertIs(shows_fooled("stack", SOME, idle, (("put", 0),) * 60), True)
        self.assertIs(shows_fooled("stack", SOME, idle, (("put", 0),) * 61), False)

    def test_for_a_question_that_can_be_kept(self):
        man = (((0, 0, 0, 0),), (1,))
        self.assertIs(shows_fooled("inout", EVEN, man, (("put", 0, 0),)), True)
        self.assertIs(shows_fooled("inout", EVEN, man, (("put", 1, 0),)), False)
        self.assertIs(shows_fooled("inout", EVEN, keeper("inout", EVEN), (("put", 0, 0),)), False)

    def test_first_answer(self):
        for world in WORLDS:
            width = len(slow_messages(world, 2))
            for told in range(4):
                self.assertIs(shows_fooled(world, SOME, (((0,) * width,), (told,)), ()), told != 0)

    def test_edits_changed(self):
        idle = (((0,) * 4,), (0,))
        good = (("put", 0, 0), ("put", 1, 0), ("take", 1, 0))
        self.assertIs(shows_fooled("inout", SOME, idle, good), True)
        for at, edit in itertools.product(range(3), (
            None, (), ("put", 0), ("put", 2, 0), ("put", 0, 9), ("take", 0, 9), ["put", 0, 0], ("chop", 0), ("turn",),
            ("put", False, 0), ("put", 0, False), ("take", True, 0), DEEP, DEEP_LIST,
        )):
            wrong = good[:at] + (edit,) + good[at + 1:]
            self.assertIs(shows_fooled("inout", SOME, idle, wrong), slow_fooled("inout", SOME, idle, wrong), (at, edit))

    def test_any_value(self):
        for world in WORLDS:
            man = (((0,) * len(slow_messages(world, 2)),), (0,))
            for at, value in enumerate(NOTHING + (None,)):
                self.assertIs(shows_fooled(world, SOME, man, value), slow_fooled(world, SOME, man, value), (world, at))
                self.assertIs(shows_reason(world, SOME, value), value is None and world not in MERGING, (world, at))
                expected = slow_fooled(world, SOME, man, value) and len(value) == 1
                self.assertIs(shows_first_wrong(world, SOME, man, 2, value), expected, (world, at))
                self.assertIs(shows_first_wrong(world, SOME, man, 0, value), value is None, (world, at))


class TestFirstWrong(unittest.TestCase):
    def check(self, world, question, man, most):
        found = first_wrong(world, question, man, most)
        expected = slow_first(world, question, man, most)
        if expected is None:
            self.assertIsNone(found, (world, question, man))
        else:
            self.assertEqual(len(found), expected, (world, question, man))
            self.assertTrue(slow_fooled(world, question, man, found), (world, question, man))
            longer = found + puts(world, (0,))[:1] if world not in ORDERING else found + (("put", 0, 0),)
            self.assertIs(shows_first_wrong(world, question, man, most, longer), False)
        self.assertIs(shows_first_wrong(world, question, man, most, found), True)
        self.assertIs(shows_first_wrong(world, question, man, most, None), found is None)

    def test_against_all_edits(self):
        chance = random.Random(61)
        for question in some_questions(62):
            for world in WORLDS:
                man = any_keeper(chance, world, question[0], chance.randint(1, 6), max(question[2]) + 1)
                man = man[0], (slow_answer(question, ()),) + man[1][1:]
                self.check(world, question, man, chance.randint(0, 3 if question[0] < 3 else 2))

    def test_almost_right_keepers(self):
        chance = random.Random(63)
        for question, world in itertools.product((SOME, LAST, EVEN, ring(3), THREE), WORLDS):
            if not can_keep(world, question):
                continue
            man = keeper(world, question)
            self.check(world, question, man, 3 if question[0] < 3 else 2)
            for _ in range(3):
                state = chance.randrange(len(man[0]))
                row = list(man[0][state])
                row[chance.randrange(len(row))] = chance.randrange(len(man[0]))
                wrong = man[0][:state] + (tuple(row),) + man[0][state + 1:], man[1]
                self.check(world, question, wrong, 3 if question[0] < 3 else 2)

    def test_knowing_keepers(self):
        for world, question in unkept((SOME, LAST, (1, ((1,), (1,)), (0, 1)))):
            for depth, most in itertools.product(range(3), range(4)):
                self.check(world, question, knowing(world, question, depth), most)

    def test_shows_all_short_edits(self):
        chance = random.Random(64)
        for world in WORLDS:
            man = any_keeper(chance, world, 2, 3)
            man = man[0], (0,) + man[1][1:]
            fewest = slow_first(world, SOME, man, 2)
            rows = [()]
            for _ in range(2):
                rows += [row + (edit,) for row in rows for edit in self.done(world, row)]
            for edits, most in itertools.product(rows, range(3)):
                wrong = slow_fooled(world, SOME, man, edits)
                expected = wrong and len(edits) == fewest and fewest <= most
                self.assertIs(shows_first_wrong(world, SOME, man, most, edits), expected, (world, edits, most))

    def done(self, world, row):
        text = []
        for edit in row:
            slow_edit(text, edit)
        return done_edits(world, 2, text)

    def test_most(self):
        # He is wrong behind four letters 0 for the first time.
        man = (((1,), (2,), (3,), (4,), (4,)), (0, 0, 0, 0, 1))
        never = (1, ((0,),), (0,))
        for world in ("end", "in"):
            for most in range(7):
                found = first_wrong(world, never, man, most)
                self.assertEqual(found if found is None else len(found), 4 if most >= 4 else None)
                self.assertIs(shows_first_wrong(world, never, man, most, puts(world, (0,) * 4)), most >= 4)
                self.assertIs(shows_first_wrong(world, never, man, most, puts(world, (0,) * 5)), False)

    def test_at_once(self):
        for world in WORLDS:
            man = (((0,) * len(slow_messages(world, 2)),), (1,))
            for most in range(7):
                self.assertEqual(first_wrong(world, SOME, man, most), ())
                self.assertIs(shows_first_wrong(world, SOME, man, most, ()), True)
                self.assertIs(shows_first_wrong(world, SOME, man, most, puts(world, (1,))), False)

    def test_six_edits(self):
        # Right keepers are never wrong.
        for world, question in itertools.product(WORLDS, (EVEN, SOME, ONLY)):
            if can_keep(world, question):
                self.assertIsNone(first_wrong(world, question, keeper(world, question), 6))
        # One who counts to five is wrong behind six letters put and six taken off: not within six edits.
        self.assertIsNone(first_wrong("stack", SOME, counter(5), 6))
        self.assertEqual(len(first_wrong("stack", SOME, counter(2), 6)), 5)
        self.assertIsNone(first_wrong("stack", SOME, counter(3), 6))

    def test_too_many_pairs(self):
        chance = random.Random(65)
        never = (3, ((0, 0, 0),), (0,))
        for world in ("deque", "relabel", "inout"):
            man = any_keeper(chance, world, 3, 3000, 1)
            for most in range(6 if world == "inout" else 7):
                if most < 5:
                    self.assertIsNone(first_wrong(world, never, man, most))
                elif count_pairs(world, 3, man, most) <= 100000:
                    self.assertIsNone(first_wrong(world, never, man, most))
                    self.assertIs(shows_first_wrong(world, never, man, most, None), True)
                else:
                    self.assertEqual(error_of(first_wrong, world, never, man, most), bad("TooMany", most=100000))
                    self.assertEqual(error_of(shows_first_wrong, world, never, man, most, None), bad("TooMany", most=100000))

    def test_where_too_many_come(self):
        never = (3, ((0, 0, 0),), (0,))
        man = any_keeper(random.Random(66), "relabel", 3, 3000, 1)
        self.assertGreater(count_pairs("relabel", 3, man, 6), 100000)
        self.assertEqual(error_of(first_wrong, "relabel", never, man, 6), bad("TooMany", most=100000))
        # Behind all other errors, and not where fewer come first.
        self.assertEqual(error_of(first_wrong, "relabel", never, man, 7), bad("BadNumber"))
        wrong = man[0], (0,) + (1,) * 2999
        self.assertEqual(len(first_wrong("relabel", never, wrong, 6)), 1)


class TestWrong(unittest.TestCase):
    def wrong(self):
        return [
            WRONG_WORLDS, [(value, bad("BadQuestion", part=part)) for value, part in WRONG_QUESTIONS],
            [(value, bad("BadKeeper", index=index)) for value, index in WRONG_KEEPERS],
        ]

    def numbers(self):
        values = (None, True, False, -1, 7, 100, 10 ** 5000, -10 ** 5000, "", "3", (), (3,), [], [3], {}, {3: 3}, DEEP, DEEP_LIST)
        return [(value, bad("BadNumber")) for value in values]

    def test_reason(self):
        for world in ("in", "end"):
            check_arguments(self, reason, [world, LAST], self.wrong()[:2])
            check_arguments(self, shows_reason, [world, LAST, None], self.wrong()[:2] + [()])
        for value in NOTHING:
            self.assertEqual(error_of(shows_reason, "In", LAST, value), bad("BadWorld"))
            self.assertEqual(error_of(shows_reason, "in", None, value), bad("BadQuestion", part="question"))

    def test_fool(self):
        check_arguments(self, fool, ["in", LAST, KEPT], self.wrong())
        for world in ("in", "end"):
            check_arguments(self, shows_fooled, [world, LAST, KEPT, ()], self.wrong() + [()])
        # The errors of all arguments stand ahead of Answerable.
        for value, index in WRONG_KEEPERS:
            self.assertEqual(error_of(fool, "end", EVEN, value), bad("BadKeeper", index=index))
        self.assertEqual(error_of(fool, "end", EVEN, KEPT), bad("Answerable"))

    def test_first_wrong(self):
        for world in ("in", "end"):
            check_arguments(self, first_wrong, [world, LAST, KEPT, 3], self.wrong() + [self.numbers()])
            check_arguments(self, shows_first_wrong, [world, LAST, KEPT, 3, None], self.wrong() + [self.numbers(), ()])
        for most in range(7):
            self.assertIsNone(error_of(first_wrong, "in", LAST, KEPT, most))

    def test_keepers_of_other_worlds(self):
        for world, letters in itertools.product(WORLDS, (1, 2, 3)):
            question = (letters, ((0,) * letters,), (0,))
            width = len(slow_messages(world, letters))
            for many in range(15):
                man = (((0,) * many,), (0,))
                index = None if many == width else bad("BadKeeper", index=0)
                self.assertEqual(error_of(shows_fooled, world, question, man, ()), index)
                self.assertEqual(error_of(first_wrong, world, question, man, 0), index)


class TestUnchanged(unittest.TestCase):
    def test_wrong_arguments(self):
        values = ([[1, 0], [1]], {0: [1]}, ["order", [], 0, 1, []], ("order", [], 0, 1, []), (["put", 0],), ([[0]], [0]), [])
        for value, world in itertools.product(values, WORLDS):
            before = copy.deepcopy(value)
            man = (((0,) * len(slow_messages(world, 2)),), (0,))
            self.assertIs(shows_reason(world, SOME, value), False)
            self.assertIs(shows_fooled(world, SOME, man, value), False)
            self.assertIs(shows_first_wrong(world, SOME, man, 1, value), False)
            for call in (reason, can_keep):
                self.assertIsNotNone(error_of(call, world, value))
            self.assertIsNotNone(error_of(fool, world, SOME, value))
            self.assertIsNotNone(error_of(first_wrong, world, SOME, value, 3))
            self.assertIsNotNone(error_of(first_wrong, world, SOME, man, value))
            self.assertEqual(value, before)

    def test_again(self):
        chance = random.Random(71)
        for world, question in unkept(some_questions(72)):
            man = any_keeper(chance, world, question[0], 3)
            kept = copy.deepcopy([question, man])
            reason(world, question)
            edits = fool(world, question, man)
            first = first_wrong(world, question, man, 2)
            self.assertEqual([question, man], kept)
            self.assertIs(type(edits), tuple)
            self.assertIn(type(first), (tuple, type(None)))
            for edit in edits + (first or ()):
                self.assertEqual([type(part) for part in edit], [str, int, int][:len(edit)])


if __name__ == "__main__":
    unittest.main()

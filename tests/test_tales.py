import copy
import itertools
import random
import unittest

from helpers import (
    DEEP, DEEP_LIST, EVEN, FURTHER, KEPT, LAST, ONLY, PLACED, SOME, THREE, WORLDS, WRONG_KEEPERS, WRONG_LETTERS,
    WRONG_QUESTIONS, WRONG_STRINGS, WRONG_WORLDS, any_edits, any_keeper, any_question, bad, check_arguments, done_edits,
    error_of, message_of, put, puts, ring, slow_answer, slow_can_keep, slow_edit, slow_keep, slow_messages,
)
from toldwhat import tales
from toldwhat.keepers import keep, keeper
from toldwhat.tales import is_kept_true, read_keeper, read_tale, tale, write_keeper, write_tale
from toldwhat.worlds import text_after, told

NAMES = "abc"
WORDS = ("put", "front", "chop", "behead", "take", "turn")

# All numbers of at most so many plain figures without a needless 0 ahead.
PLACES = {str(number) for number in range(10 ** 2)}
STATES = {str(number) for number in range(10 ** 4)}

# Words that may come in anywhere, right ones and wrong ones.
VOCABULARY = WORDS + (
    "a", "b", "c", "d", "A", "ab", "aa", "0", "1", "2", "3", "9", "10", "12", "59", "60", "61", "99", "100", "00", "01",
    "007", "-1", "+1", "1.0", "Put", "PUT", "putt", "move", "cut", "flip", "change", "x", ":", ",", "\t", "a\t", "\tput", "1\r",
    "put\r", "\r", "\u00b2", "\u0663", "\uff11", "\u0430", "\u00a0", "\x0b", "\ud800", "puta", "a0", "0a", "None", "True",
)

SCRAPS = (
    None, True, False, 0, 1, -1, 10 ** 5000, "", "put", [], [("put", 0)], {}, {("put", 0): 0}, DEEP_LIST,
    (("put", 0),) * 101, (None,) * 101,
)
WRONG_EDITS = tuple((value, bad("BadEdits", index=None)) for value in SCRAPS) + tuple(
    ((("put", 0), value, None), bad("BadEdits", index=1))
    for value in (None, True, 0, "put", (), ("put",), ("put", 2), ("put", True), ["put", 0], ("put", DEEP), DEEP, ("take", 0, 0))
)


def slow_line(edit):
    """The line of an edit, by the document's words."""
    if edit[0] == "turn":
        return " ".join(["turn", *[NAMES[letter] for row in edit[1:] for letter in row]])
    return " ".join([edit[0], NAMES[edit[1]], *[str(place) for place in edit[2:]]])


def slow_read(world, letters, text):
    """The edits that a text tells, or the line and the word that are wrong, by the document's words."""
    now, edits = [], ()
    for line, row in enumerate(text.split("\n"), 1):
        words = [word for word in row.split(" ") if word]
        if not words:
            continue
        wrong = slow_wrong_word(world, letters, words)
        if wrong:
            return (line, wrong), None
        rest = [NAMES.index(word) if word in NAMES else int(word) for word in words[1:]]
        edit = (words[0], *rest)
        if words[0] == "turn":
            edit = ("turn", tuple(rest)) if rest else ("turn",)
        # 61 letters are too many.
        if edit not in done_edits(world, letters, now) or len(edits) == 100:
            return (line, 1), None
        if len(now) == 60 and edit[0] in ("put", "front"):
            return (line, 1), None
        slow_edit(now, edit)
        edits += (edit,)
    return None, edits


def slow_wrong_word(world, letters, words):
    """The number of the first word of a line that is wrong by itself or lacking, None if none is."""
    names = list(NAMES[:letters])
    if words[0] not in WORDS:
        return 1
    if words[0] == "turn":
        lacking = [""] * (1 + letters - len(words)) if world == "relabel" else []
        return next((at for at, word in enumerate(words[1:] + lacking, 2) if word not in names), None)
    if len(words) == 1 or words[1] not in names:
        return 2
    if len(words) > 2 and words[2] not in PLACES:
        return 3
    return 4 if len(words) > 3 else None


def some_tales(seed, times):
    """Worlds, letters, and edits at random."""
    chance = random.Random(seed)
    for world, letters in itertools.product(WORLDS, (1, 2, 3)):
        for _ in range(times):
            yield world, letters, any_edits(chance, world, letters, chance.randint(1, 14))[0]


class TestInterface(unittest.TestCase):
    def test_example(self):
        parity = (2, ((1, 0), (0, 1)), (0, 1))
        found = [read_tale("in", 2, "put a 0\nput b 0"), tale("in", parity, (("put", 0, 0), ("put", 1, 0)))]
        expected = [(("put", 0, 0), ("put", 1, 0)), ((("put", 0), (0,), 1), (("put", 1), (1, 0), 1))]
        self.assertEqual(found, expected)

    def test_defined_here(self):
        for name in ("write_tale", "read_tale", "tale", "is_kept_true", "write_keeper", "read_keeper"):
            self.assertEqual(getattr(tales, name).__module__, "toldwhat.tales")

    def test_names_of_arguments(self):
        self.assertEqual(write_tale(world="end", letters=1, edits=()), "")
        self.assertEqual(read_tale(world="end", letters=1, text=""), ())
        self.assertEqual(tale(world="end", question=EVEN, edits=()), ())
        self.assertIs(is_kept_true(world="end", question=EVEN, edits=()), True)
        self.assertEqual(write_keeper(world="end", letters=2, keeper=KEPT), "1 : 1 0\n0 : 0 1")
        self.assertEqual(read_keeper(world="end", letters=2, text="1 : 1 0\n0 : 0 1"), KEPT)


class TestWriteTale(unittest.TestCase):
    def test_there_and_back(self):
        chance = random.Random(1)
        for world, letters in itertools.product(WORLDS, (1, 2, 3)):
            for many in (0, 1, 2, 7, 30, 99, 100):
                edits = any_edits(chance, world, letters, many)[0]
                text = write_tale(world, letters, edits)
                self.assertEqual(text, "\n".join(slow_line(edit) for edit in edits))
                self.assertEqual(read_tale(world, letters, text), edits, (world, text))

    def test_all_short_edits(self):
        for world, letters in itertools.product(WORLDS, (1, 2, 3)):
            rows = [((), ())]
            for edits, text in rows:
                self.assertEqual(read_tale(world, letters, write_tale(world, letters, edits)), edits)
                if len(edits) < (3 if letters < 3 else 2):
                    for edit in done_edits(world, letters, list(text)):
                        after = list(text)
                        slow_edit(after, edit)
                        rows.append((edits + (edit,), tuple(after)))

    def test_written_out(self):
        for world, letters, edits, text in (
            ("end", 1, (), ""), ("end", 3, (("put", 0), ("put", 2)), "put a\nput c"),
            ("ends", 2, (("front", 1), ("put", 0)), "front b\nput a"), ("stack", 1, (("put", 0), ("chop", 0)), "put a\nchop a"),
            ("deque", 3, (("put", 2), ("behead", 2)), "put c\nbehead c"), ("in", 2, (("put", 1, 0), ("put", 0, 1)), "put b 0\nput a 1"),
            ("inout", 2, (("put", 1, 0), ("take", 1, 0)), "put b 0\ntake b 0"), ("reverse", 1, (("turn",), ("put", 0)), "turn\nput a"),
            ("relabel", 3, (("turn", (1, 2, 0)),), "turn b c a"), ("relabel", 1, (("turn", (0,)),), "turn a"),
            ("relabel", 2, (("turn", (1, 0)), ("turn", (0, 1))), "turn b a\nturn a b"),
            ("in", 1, (("put", 0, 0),) * 11 + (("put", 0, 10),), "put a 0\n" * 11 + "put a 10"),
        ):
            self.assertEqual([write_tale(world, letters, edits), read_tale(world, letters, text)], [text, edits])
            self.assertIs(type(write_tale(world, letters, edits)), str)


class TestReadTale(unittest.TestCase):
    def check(self, world, letters, text):
        wrong, edits = slow_read(world, letters, text)
        if wrong:
            line, word = wrong
            expected = bad("BadLine", line=line, word=word)
            self.assertEqual(error_of(read_tale, world, letters, text), expected, (world, letters, text))
        else:
            self.assertEqual(read_tale(world, letters, text), edits, (world, letters, text))
        return wrong

    def test_one_word_changed(self):
        chance = random.Random(2)
        seen = set()
        for world, letters, edits in some_tales(3, 6):
            lines = [slow_line(edit).split(" ") for edit in edits]
            for at, words in enumerate(lines):
                for place in range(len(words)):
                    for word in chance.sample(VOCABULARY, 3):
                        other = [*lines[:at], [*words[:place], word, *words[place + 1:]], *lines[at + 1:]]
                        wrong = self.check(world, letters, "\n".join(" ".join(row) for row in other))
                        seen.add(wrong and wrong[1])
        self.assertEqual(seen, {None, 1, 2, 3, 4})

    def test_one_word_left_out(self):
        for world, letters, edits in some_tales(4, 8):
            lines = [slow_line(edit).split(" ") for edit in edits]
            for at, words in enumerate(lines):
                for place in range(len(words)):
                    other = [*lines[:at], [*words[:place], *words[place + 1:]], *lines[at + 1:]]
                    self.check(world, letters, "\n".join(" ".join(row) for row in other))

    def test_one_word_put_in(self):
        chance = random.Random(5)
        for world, letters, edits in some_tales(6, 6):
            lines = [slow_line(edit).split(" ") for edit in edits]
            for at, words in enumerate(lines):
                for place in range(len(words) + 1):
                    for word in chance.sample(VOCABULARY, 3):
                        other = [*lines[:at], [*words[:place], word, *words[place:]], *lines[at + 1:]]
                        self.check(world, letters, "\n".join(" ".join(row) for row in other))

    def test_lines_changed(self):
        for world, letters, edits in some_tales(7, 5):
            lines = [slow_line(edit) for edit in edits]
            for at in range(len(lines)):
                self.check(world, letters, "\n".join(lines[:at] + lines[at + 1:]))
                self.check(world, letters, "\n".join(lines[:at] + ["put b", "front a", "turn"][at % 3:][:1] + lines[at:]))
            self.check(world, letters, "\n".join(lines[::-1]))
            self.check(world, letters, " ".join(lines))

    def test_any_words(self):
        chance = random.Random(8)
        for _ in range(4000):
            lines = [" ".join(chance.choice(VOCABULARY[:27]) for _ in range(chance.randint(0, 5))) for _ in range(chance.randint(1, 3))]
            self.check(chance.choice(WORLDS), chance.randint(1, 3), "\n".join(lines))

    def test_void_lines_and_many_spaces(self):
        chance = random.Random(9)
        for world, letters, edits in some_tales(10, 5):
            lines = []
            for edit in edits:
                lines += ["" if chance.randrange(2) else "   "] * chance.randint(0, 2)
                lines.append("".join(" " * chance.randint(1, 3) + word for word in slow_line(edit).split(" ")) + " " * chance.randint(0, 2))
            text = "\n".join(lines)
            self.assertEqual(read_tale(world, letters, text), edits)
            self.assertEqual(read_tale(world, letters, f"\n \n{text}\n\n  \n"), edits)
            # Void lines are counted.
            expected = bad("BadLine", line=len(lines) + 3, word=1)
            self.assertEqual(error_of(read_tale, world, letters, f"\n{text}\n\nx"), expected)
        for text in ("", " ", "\n", "\n\n  \n", "      "):
            self.assertEqual(read_tale("end", 1, text), ())

    def test_no_other_spaces(self):
        for sign in ("\t", "\r", "\u00a0", "\x0b", "\u2028", "\x0c", "\x1e"):
            self.assertEqual(error_of(read_tale, "end", 1, f"put{sign}a"), bad("BadLine", line=1, word=1))
            self.assertEqual(error_of(read_tale, "end", 1, f"put a{sign}"), bad("BadLine", line=1, word=2))
            self.assertEqual(error_of(read_tale, "end", 1, f"put a\n{sign}"), bad("BadLine", line=2, word=1))
            self.assertEqual(error_of(read_tale, "end", 1, f"put a {sign}"), bad("BadLine", line=1, word=3))

    def test_first_words(self):
        for word in ("Put", "PUT", "putt", "a", "0", "move", "cut", "flip", "change", "x", "told", "put:", "\tput"):
            for world in WORLDS:
                self.assertEqual(error_of(read_tale, world, 2, word), bad("BadLine", line=1, word=1))
                self.assertEqual(error_of(read_tale, world, 2, f"{word} d x y"), bad("BadLine", line=1, word=1))
        # Words of other worlds are words; what they tell cannot be done.
        for world, word in itertools.product(WORLDS, WORDS[:-1]):
            self.assertEqual(error_of(read_tale, world, 1, word), bad("BadLine", line=1, word=2))
            self.assertEqual(error_of(read_tale, world, 1, f"{word} b"), bad("BadLine", line=1, word=2))
            self.assertEqual(error_of(read_tale, world, 1, f"{word} a x"), bad("BadLine", line=1, word=3))
            self.assertEqual(error_of(read_tale, world, 1, f"{word} a 0 a"), bad("BadLine", line=1, word=4))
            self.assertEqual(error_of(read_tale, world, 1, f"{word} a 0 a a a"), bad("BadLine", line=1, word=4))

    def test_letters(self):
        for letters in (1, 2, 3):
            for at, name in enumerate("abcd"):
                expected = None if at < letters else bad("BadLine", line=1, word=2)
                self.assertEqual(error_of(read_tale, "end", letters, f"put {name}"), expected)
                self.assertEqual(error_of(read_tale, "in", letters, f"put {name} 0"), expected)
        for word in ("A", "ab", "aa", "0", "", "\u0430", "a,"):
            self.assertEqual(error_of(read_tale, "end", 3, f"put {word}"), bad("BadLine", line=1, word=2))
        self.assertEqual(error_of(read_tale, "end", 3, "put a\n\nput"), bad("BadLine", line=3, word=2))

    def test_places(self):
        begun = "\n".join("put a 0" for _ in range(12))
        for word in ("00", "01", "007", "012", "100", "1000", "-1", "+1", "1.", "x", "a", "\u00b2", "\u0661", "\uff11", "1_0", "0x1", "\ud800"):
            for world in PLACED:
                self.assertEqual(error_of(read_tale, world, 1, f"{begun}\nput a {word}"), bad("BadLine", line=13, word=3), word)
                self.assertEqual(error_of(read_tale, world, 1, f"{begun}\nput a {word} x"), bad("BadLine", line=13, word=3), word)
            self.assertEqual(error_of(read_tale, "end", 1, f"put a {word}"), bad("BadLine", line=1, word=3), word)
            self.assertEqual(error_of(read_tale, "stack", 1, f"chop a {word}"), bad("BadLine", line=1, word=3), word)
        for place in range(100):
            expected = None if place <= 12 else bad("BadLine", line=13, word=1)
            self.assertEqual(error_of(read_tale, "in", 1, f"{begun}\nput a {place}"), expected)
            expected = None if place <= 11 else bad("BadLine", line=13, word=1)
            self.assertEqual(error_of(read_tale, "inout", 1, f"{begun}\ntake a {place}"), expected)
            for text in (f"put a {place}", f"front a {place}"):
                self.assertEqual(error_of(read_tale, "ends", 1, text), bad("BadLine", line=1, word=1))
        # Where one is lacking, it cannot be done.
        for world in PLACED:
            self.assertEqual(error_of(read_tale, world, 1, "put a"), bad("BadLine", line=1, word=1))
        self.assertEqual(error_of(read_tale, "inout", 1, "put a 0\ntake a"), bad("BadLine", line=2, word=1))

    def test_turns(self):
        for world, letters, text, word in (
            ("reverse", 2, "turn a", 1), ("reverse", 2, "turn b a", 1), ("reverse", 2, "turn x", 2), ("reverse", 2, "turn a x", 3),
            ("reverse", 2, "turn a b a c", 5), ("reverse", 2, "turn a b a b a", 1), ("reverse", 1, "turn b", 2),
            ("relabel", 2, "turn", 2), ("relabel", 2, "turn b", 3), ("relabel", 3, "turn b", 3), ("relabel", 3, "turn b c", 4),
            ("relabel", 3, "turn", 2), ("relabel", 1, "turn", 2), ("relabel", 2, "turn a a", 1), ("relabel", 2, "turn b a a", 1),
            ("relabel", 2, "turn c a", 2), ("relabel", 2, "turn a c", 3), ("relabel", 2, "turn a 1", 3), ("relabel", 2, "turn c", 2),
            ("relabel", 2, "turn b a b a", 1), ("relabel", 2, "turn b a c", 4), ("relabel", 3, "turn a b c d", 5),
            ("relabel", 3, "turn a b c a", 1), ("relabel", 3, "turn a b a", 1), ("relabel", 2, "turn ba", 2), ("relabel", 2, "turn 1 0", 2),
            ("end", 2, "turn", 1), ("end", 2, "turn b a", 1), ("end", 2, "turn b", 1), ("end", 2, "turn x", 2), ("inout", 3, "turn a b c", 1),
        ):
            self.assertEqual(error_of(read_tale, world, letters, text), bad("BadLine", line=1, word=word), (world, text))
            self.assertEqual(slow_read(world, letters, text), ((1, word), None))
        self.assertEqual(read_tale("reverse", 2, "turn\n  turn "), (("turn",), ("turn",)))
        self.assertEqual(read_tale("relabel", 3, "turn c a b"), (("turn", (2, 0, 1)),))

    def test_that_cannot_be_done(self):
        for world, text, line in (
            ("stack", "chop a", 1), ("stack", "put a\nchop b", 2), ("stack", "put a\nchop a\nchop a", 3), ("deque", "behead a", 1),
            ("deque", "put a\nput b\nbehead b", 3), ("deque", "put a\nput b\nchop a", 3), ("inout", "take a 0", 1), ("in", "put a 1", 1),
            ("inout", "put a 0\ntake b 0", 2), ("inout", "put a 0\ntake a 1", 2), ("in", "put a 0\ntake a 0", 2), ("end", "front a", 1),
            ("end", "put a 0", 1), ("ends", "chop a", 1), ("stack", "front a", 1), ("in", "put a 60", 1), ("in", "put a 99", 1),
        ):
            self.assertEqual(error_of(read_tale, world, 2, text), bad("BadLine", line=line, word=1), (world, text))
            # Line by line: what is wrong behind it does not count, what is wrong ahead of it does.
            self.assertEqual(error_of(read_tale, world, 2, f"{text}\nx\nput c"), bad("BadLine", line=line, word=1))
            self.assertEqual(error_of(read_tale, world, 2, f"put c\n{text}"), bad("BadLine", line=1, word=2))

    def test_a_hundred_edits(self):
        text = "\n".join(["put a 0", "take a 0"] * 50)
        self.assertEqual(len(read_tale("inout", 1, text)), 100)
        self.assertEqual(len(read_tale("inout", 1, text + "\n\n \n")), 100)
        self.assertEqual(error_of(read_tale, "inout", 1, f"{text}\nput a 0"), bad("BadLine", line=101, word=1))
        self.assertEqual(error_of(read_tale, "inout", 1, f"\n{text}\n\nput a 0"), bad("BadLine", line=103, word=1))
        # Its words first.
        self.assertEqual(error_of(read_tale, "inout", 1, f"{text}\nput a x"), bad("BadLine", line=101, word=3))
        self.assertEqual(error_of(read_tale, "inout", 1, f"{text}\nput b"), bad("BadLine", line=101, word=2))
        self.assertEqual(error_of(read_tale, "inout", 1, f"{text}\nput a 0 0"), bad("BadLine", line=101, word=4))
        self.assertEqual(len(read_tale("reverse", 1, "turn\n" * 100)), 100)
        self.assertEqual(error_of(read_tale, "reverse", 1, "turn\n" * 101), bad("BadLine", line=101, word=1))
        self.assertEqual(error_of(read_tale, "reverse", 1, "turn\n" * 100000), bad("BadLine", line=101, word=1))

    def test_sixty_letters(self):
        for world in WORLDS:
            edits = puts(world, (0,) * 60)
            text = write_tale(world, 1, edits)
            self.assertEqual(read_tale(world, 1, text), edits)
            longer = f"{text}\n{slow_line(put(world, 0, 60))}"
            self.assertEqual(error_of(read_tale, world, 1, longer), bad("BadLine", line=61, word=1))


class TestTale(unittest.TestCase):
    def questions(self):
        chance = random.Random(11)
        yield from (EVEN, SOME, LAST, ONLY, THREE, ring(7, (1, 0, 0, 2, 0, 3, 0)))
        for letters, many in ((1, 4), (2, 3), (2, 4), (3, 2)):
            yield any_question(chance, letters, many, 4)

    def test_against_the_others(self):
        chance = random.Random(12)
        for world, question in itertools.product(WORLDS, self.questions()):
            for many in (0, 1, 12, 100):
                edits, text = any_edits(chance, world, question[0], many)
                if not slow_can_keep(world, question):
                    for call in (tale, is_kept_true):
                        self.assertEqual(error_of(call, world, question, edits), bad("NoKeeper"), (world, question))
                    continue
                found = tale(world, question, edits)
                row = told(world, question[0], edits)
                answers = keep(world, question[0], keeper(world, question), row)
                self.assertEqual([message for message, _, _ in found], list(row))
                self.assertEqual([answer for _, _, answer in found], list(answers[1:]))
                for at, (message, now, answer) in enumerate(found, 1):
                    self.assertEqual(now, text_after(world, question[0], edits[:at]))
                    self.assertEqual(message, message_of(edits[at - 1]))
                    self.assertEqual(answer, slow_answer(question, now))
                    self.assertEqual([type(now), type(answer)], [tuple, int])
                if found:
                    self.assertEqual(found[-1][1], text)
                self.assertIs(type(found), tuple)
                self.assertTrue(all(type(row) is tuple and len(row) == 3 for row in found))
                self.assertIs(is_kept_true(world, question, edits), True)

    def test_written_out(self):
        found = tale("stack", EVEN, (("put", 0), ("put", 1), ("chop", 1)))
        self.assertEqual(found, ((("put", 0), (0,), 0), (("put", 1), (0, 1), 0), (("chop", 1), (0,), 0)))
        self.assertEqual(tale("reverse", LAST, (("put", 1), ("put", 0), ("turn",)))[-1], (("turn",), (0, 1), 1))
        self.assertEqual(tale("relabel", LAST, (("put", 1), ("turn", (1, 0))))[-1], (("turn", (1, 0)), (0,), 0))
        self.assertEqual(tale("ends", LAST, ()), ())

    def test_too_many_states(self):
        swap = (1, 0, 2, 3, 4, 5, 6)
        orders = (2, tuple((swap[state], (state + 1) % 7) for state in range(7)), (1, 0, 0, 0, 0, 0, 0))
        self.assertEqual(error_of(tale, "in", orders, ()), bad("NoKeeper"))
        self.assertEqual(tale("end", orders, (("put", 0),)), ((("put", 0), (0,), 0),))
        # There is no keeper of so many states, as keeper itself tells.
        for call in (tale, is_kept_true):
            self.assertEqual(error_of(call, "ends", orders, (("put", 0),)), bad("TooMany", most=3000))
            self.assertEqual(error_of(call, "ends", orders, (("put", 2),)), bad("BadEdits", index=0))


class TestWriteKeeper(unittest.TestCase):
    def test_there_and_back(self):
        chance = random.Random(13)
        for world, letters in itertools.product(WORLDS, (1, 2, 3)):
            for many in (1, 2, 5, 12, 101):
                man = any_keeper(chance, world, letters, many, 4)
                text = write_keeper(world, letters, man)
                lines = [f"{answer} : {' '.join(str(state) for state in row)}" for row, answer in zip(*man)]
                self.assertEqual(text, "\n".join(lines))
                self.assertEqual(read_keeper(world, letters, text), man)

    def test_right_keepers(self):
        for world, question in itertools.product(WORLDS, (EVEN, SOME, LAST, THREE)):
            if slow_can_keep(world, question):
                man = keeper(world, question)
                found = read_keeper(world, question[0], write_keeper(world, question[0], man))
                self.assertEqual(found, man)
                row = tuple(slow_messages(world, question[0]))
                self.assertEqual(keep(world, question[0], found, row), slow_keep(world, question[0], man, row))

    def test_three_thousand_states(self):
        steps = tuple(((state + 1) % 3000,) for state in range(3000))
        man = (steps, (1,) + (0,) * 2999)
        text = write_keeper("end", 1, man)
        self.assertEqual(text.split("\n")[998:1001], ["0 : 999", "0 : 1000", "0 : 1001"])
        self.assertEqual(read_keeper("end", 1, text), man)
        self.assertEqual(error_of(read_keeper, "end", 1, text + "\n0 : 0"), bad("BadKeeper", index=None))
        self.assertEqual(error_of(read_keeper, "end", 1, text + "\n0 : 00"), bad("BadLine", line=3001, word=3))
        self.assertEqual(error_of(read_keeper, "end", 1, text[:-1] + "3000"), bad("BadKeeper", index=2999))

    def test_written_out(self):
        self.assertEqual(write_keeper("stack", 2, (((1, 0, 1, 0), (0, 1, 0, 1)), (1, 3))), "1 : 1 0 1 0\n3 : 0 1 0 1")
        self.assertEqual(write_keeper("end", 1, (((0,),), (2,))), "2 : 0")
        found = read_keeper("end", 1, "2 : 0")
        self.assertEqual(found, (((0,),), (2,)))
        self.assertEqual([type(found[0]), type(found[0][0]), type(found[1]), type(found[1][0])], [tuple, tuple, tuple, int])


class TestReadKeeper(unittest.TestCase):
    def check(self, world, letters, text):
        """What is read by the document's words: the first wrong line and word, then the state that is wrong."""
        steps, answers = [], []
        for line, row in enumerate(text.split("\n"), 1):
            words = row.split(" ")
            for at, word in enumerate(words, 1):
                right = word in ("0", "1", "2", "3") if at == 1 else word == ":" if at == 2 else word in STATES
                if not right:
                    self.assertEqual(error_of(read_keeper, world, letters, text), bad("BadLine", line=line, word=at), (world, text))
                    return at
            if len(words) == 1:
                self.assertEqual(error_of(read_keeper, world, letters, text), bad("BadLine", line=line, word=2), (world, text))
                return 2
            answers.append(int(words[0]))
            steps.append(tuple(int(word) for word in words[2:]))
        width = len(slow_messages(world, letters))
        for at, row in enumerate(steps):
            if len(row) != width or max(row) >= len(steps):
                self.assertEqual(error_of(read_keeper, world, letters, text), bad("BadKeeper", index=at), (world, text))
                return "keeper"
        self.assertEqual(read_keeper(world, letters, text), (tuple(steps), tuple(answers)))
        return None

    def test_changed(self):
        chance = random.Random(14)
        vocabulary = (
            "0", "1", "2", "3", "4", "5", "9", "10", "0001", "00", "01", "010", "2999", "3000", "9999", "10000", "99999", ":", "::", "",
            "-1", "+1", "a", "\t", "1\t", "\r", "\u00b2", "\u0661", "\uff11", ";", "1:", ":1", "None", "\ud800", "1.0", "1_0",
        )
        seen = set()
        for world, letters in itertools.product(WORLDS, (1, 2, 3)):
            for _ in range(3):
                man = any_keeper(chance, world, letters, chance.randint(1, 6), 4)
                lines = [row.split(" ") for row in write_keeper(world, letters, man).split("\n")]
                for at, words in enumerate(lines):
                    for place in range(len(words) + 1):
                        others = [[*words[:place], *words[place + 1:]]]
                        for word in chance.sample(vocabulary, 4):
                            others.append([*words[:place], word, *words[place + 1:]])
                            others.append([*words[:place], word, *words[place:]])
                        for other in others:
                            text = "\n".join(" ".join(row) for row in [*lines[:at], other, *lines[at + 1:]])
                            seen.add(self.check(world, letters, text))
        self.assertTrue({None, 1, 2, 3, 4, "keeper"} <= seen, seen)

    def test_lines(self):
        for text, line, word in (
            ("", 1, 1), (" ", 1, 1), ("\n", 1, 1), ("1 : 0\n", 2, 1), ("\n1 : 0", 1, 1), ("1 : 0\n\n1 : 0", 2, 1), (" 1 : 0", 1, 1),
            ("1  : 0", 1, 2), ("1 :  0", 1, 3), ("1 : 0 ", 1, 4), ("1 : 0  0", 1, 4), ("1", 1, 2), ("1 ", 1, 2), ("1 : ", 1, 3), ("1:0", 1, 1), ("1 :0", 1, 2),
            ("4 : 0", 1, 1), ("-1 : 0", 1, 1), ("01 : 0", 1, 1), ("a : 0", 1, 1), ("1 ; 0", 1, 2), ("1 0 0", 1, 2), ("1 : x", 1, 3),
            ("1 : 00", 1, 3), ("1 : 00000", 1, 3), ("1 : 10000", 1, 3), ("1 : 0\n1 : 0\n5 : 0", 3, 1), ("1 : 0\r\n1 : 0", 1, 3), ("1\t: 0", 1, 1),
            ("\u00b9 : 0", 1, 1), ("1 : \u0660", 1, 3), ("1 : 9 x\n7", 1, 4), ("1 : 9\n7", 2, 1), (": 0", 1, 1), ("1 : 0\n1", 2, 2),
        ):
            self.assertEqual(error_of(read_keeper, "end", 1, text), bad("BadLine", line=line, word=word), text)
            self.check("end", 1, text)

    def test_then_the_state(self):
        for text, index in (
            ("1 :", 0), ("1 : 1", 0), ("1 : 0 0", 0), ("1 : 0\n0 : 2", 1), ("1 : 9999", 0), ("1 : 0\n0 :\n0 : 7", 1), ("1 : 1\n0 : 1\n0 : 3", 2),
            ("0 : 0\n0 : 1 1", 1),
        ):
            self.assertEqual(error_of(read_keeper, "end", 1, text), bad("BadKeeper", index=index), text)
            self.check("end", 1, text)
        # A line that is wrong ahead of a state that is, wherever they stand.
        self.assertEqual(error_of(read_keeper, "end", 1, "1 : 7\n0 : 0\n0 ; 0"), bad("BadLine", line=3, word=2))

    def test_of_other_worlds(self):
        for world, letters in itertools.product(WORLDS, (1, 2, 3)):
            width = len(slow_messages(world, letters))
            for many in range(1, 13):
                text = "2 : " + " ".join(["0"] * many)
                expected = None if many == width else bad("BadKeeper", index=0)
                self.assertEqual(error_of(read_keeper, world, letters, text), expected)


class TestWrong(unittest.TestCase):
    def test_arguments(self):
        questions = [(value, bad("BadQuestion", part=part)) for value, part in WRONG_QUESTIONS]
        keepers = [(value, bad("BadKeeper", index=index)) for value, index in WRONG_KEEPERS]
        check_arguments(self, write_tale, ["end", 2, (("put", 0),)], [WRONG_WORLDS, WRONG_LETTERS, WRONG_EDITS])
        check_arguments(self, read_tale, ["end", 2, "put a"], [WRONG_WORLDS, WRONG_LETTERS, WRONG_STRINGS])
        for call in (tale, is_kept_true):
            check_arguments(self, call, ["end", EVEN, (("put", 0),)], [WRONG_WORLDS, questions, WRONG_EDITS])
        check_arguments(self, write_keeper, ["end", 2, KEPT], [WRONG_WORLDS, WRONG_LETTERS, keepers])
        check_arguments(self, read_keeper, ["end", 2, "1 : 0 0"], [WRONG_WORLDS, WRONG_LETTERS, WRONG_STRINGS])

    def test_no_keeper_behind_all(self):
        for call in (tale, is_kept_true):
            self.assertEqual(error_of(call, "stack", LAST, (("chop", 0),)), bad("BadEdits", index=0))
            self.assertEqual(error_of(call, "stack", LAST, (("put", 0),)), bad("NoKeeper"))
            self.assertEqual(error_of(call, "stack", (2, LAST[1], (0, 4)), None), bad("BadQuestion", part="answers"))

    def test_further_worlds_are_none(self):
        for world in FURTHER:
            for call, rest in ((write_tale, ((),)), (read_tale, ("",)), (read_keeper, ("1 : 0",)), (write_keeper, (KEPT,))):
                self.assertEqual(error_of(call, world, 2, *rest), bad("BadWorld"))

    def test_first_edit_that_is_wrong(self):
        for world in WORLDS:
            edits = puts(world, (0, 1, 0))
            for at in range(3):
                wrong = edits[:at] + (("put", 5),) + edits[at:]
                for call, argument in ((write_tale, 2), (tale, EVEN), (is_kept_true, EVEN)):
                    self.assertEqual(error_of(call, world, argument, wrong), bad("BadEdits", index=at))


class TestUnchanged(unittest.TestCase):
    def test_arguments(self):
        for world in WORLDS:
            edits, man = puts(world, (0, 1)), keeper(world, EVEN)
            kept = copy.deepcopy((edits, man, EVEN))
            text, written = write_tale(world, 2, edits), write_keeper(world, 2, man)
            calls = [
                lambda: write_tale(world, 2, edits), lambda: read_tale(world, 2, text), lambda: tale(world, EVEN, edits),
                lambda: is_kept_true(world, EVEN, edits), lambda: write_keeper(world, 2, man), lambda: read_keeper(world, 2, written),
            ]
            found = [call() for call in calls]
            self.assertEqual([call() for call in reversed(calls)], found[::-1])
            self.assertEqual((edits, man, EVEN), kept)

    def test_wrong_arguments(self):
        for value in ([["put", 0]], (["put", 0],), [], {}, [[1, 0], [0, 1]], {0: [1]}):
            before = copy.deepcopy(value)
            for call in (write_tale, read_tale, write_keeper, read_keeper):
                self.assertIsNotNone(error_of(call, "end", 2, value))
            for call in (tale, is_kept_true):
                self.assertIsNotNone(error_of(call, "end", EVEN, value))
                self.assertIsNotNone(error_of(call, "end", value, value))
            self.assertEqual(value, before)


if __name__ == "__main__":
    unittest.main()

import copy
import itertools
import random
import unittest

from helpers import (
    DEEP, DEEP_LIST, NEVER, NOT_ASKS, VOID, WRONG_ASKS, WRONG_LETTERS, any_ask, any_plain, any_text, bad,
    check_arguments, depth_of, error_of, joined, nots, plain_asks, plains_in, short_texts, slow_answer,
)
from toldwhat import asks
from toldwhat.asks import is_true, question_of
from toldwhat.questions import least

WRONG_TEXTS = tuple((value, bad("BadText")) for value in NEVER + (
    (2,), (-1,), (True,), (0, False), (None,), ("0",), (0, "a"), (0,) * 61, (0,) * 1000, [0], [0, 1], "01", ((0,),),
    (10 ** 5000,), DEEP, (DEEP,), (DEEP_LIST,), ([0],), {0: 1},
))


def slow_true(ask, text):
    """Whether an ask is true of a text, by the document's words, over text as a string."""
    told = "".join(str(letter) for letter in text)
    word = ask[0]
    if word in ("begins", "ends", "holds", "repeats"):
        named = "".join(str(letter) for letter in ask[1])
        if word == "begins":
            return told.startswith(named)
        if word == "ends":
            return told.endswith(named)
        if word == "holds":
            return named in told
        return any(named * times == told for times in range(len(told) + 1))
    if word == "least":
        return told.count(str(ask[2])) >= ask[1]
    if word == "sum":
        return sum(ask[1][letter] for letter in text) % ask[2] == ask[3]
    if word == "void":
        return told == ""
    if word == "not":
        return not slow_true(ask[1], text)
    return all(slow_true(part, text) for part in ask[1:]) if word == "and" else any(slow_true(part, text) for part in ask[1:])


class TestInterface(unittest.TestCase):
    def test_examples(self):
        found = [is_true(2, ("holds", (1, 1)), (0, 1, 1)), question_of(2, ("ends", (0,)))]
        self.assertEqual(found, [True, (2, ((1, 0), (1, 0)), (0, 1))])

    def test_defined_here(self):
        for name in ("is_true", "question_of"):
            self.assertEqual(getattr(asks, name).__module__, "toldwhat.asks")

    def test_names_of_arguments(self):
        self.assertIs(is_true(letters=1, ask=VOID, text=()), True)
        self.assertEqual(question_of(letters=1, ask=VOID), (1, ((1,), (1,)), (1, 0)))


class TestIsTrue(unittest.TestCase):
    def test_plain(self):
        for letters, longest in ((1, 9), (2, 7), (3, 4)):
            for ask in plain_asks(letters):
                for text in short_texts(letters, longest):
                    self.assertIs(is_true(letters, ask, text), slow_true(ask, text), (ask, text))

    def test_all_words(self):
        # Words that begin again in themselves, for which an end of the text counts that is no more than part of it.
        for word in short_texts(2, 5):
            for text in itertools.product(range(2), repeat=7) if word else ():
                for kind in ("begins", "ends", "holds", "repeats"):
                    self.assertIs(is_true(2, (kind, word), text), slow_true((kind, word), text), (kind, word, text))

    def test_joined(self):
        chance = random.Random(1)
        for _ in range(400):
            letters = chance.randint(1, 3)
            ask = any_ask(chance, letters, chance.randint(1, 5))
            for _ in range(12):
                text = any_text(chance, letters, chance.choice((0, 1, 2, 3, 5, 8, 20, 60)))
                self.assertIs(is_true(letters, ask, text), slow_true(ask, text), (ask, text))

    def test_not_and_or(self):
        yes, no = ("not", ("least", 6, 0)), ("least", 6, 0)
        for one, other in itertools.product((yes, no), repeat=2):
            self.assertIs(is_true(1, ("and", one, other), ()), one == yes and other == yes)
            self.assertIs(is_true(1, ("or", one, other), ()), one == yes or other == yes)
            self.assertIs(is_true(1, ("not", one), ()), one == no)

    def test_by_hand(self):
        word = (0, 1)
        told = {(): "nnny", (0,): "nnnn", (0, 1): "yyyy", (0, 1, 0): "ynyn", (1, 0, 1): "nyyn", (0, 1, 0, 1): "yyyy"}
        for text, letters in told.items():
            for kind, letter in zip(("begins", "ends", "holds", "repeats"), letters):
                self.assertIs(is_true(2, (kind, word), text), letter == "y", (kind, text))
        self.assertIs(is_true(2, ("repeats", (0, 1)), (0, 1, 0, 1, 0)), False)
        self.assertIs(is_true(2, ("repeats", (0, 0)), (0,) * 7), False)
        self.assertIs(is_true(2, ("repeats", (0, 0)), (0,) * 8), True)
        for many in range(1, 7):
            for times in range(8):
                self.assertIs(is_true(2, ("least", many, 1), (1, 0) * times), times >= many)
        self.assertIs(is_true(3, ("sum", (0, 1, 2), 3, 0), (1, 2)), True)
        self.assertIs(is_true(3, ("sum", (0, 1, 7), 8, 6), (1, 2, 2, 2, 0)), True)
        self.assertIs(is_true(3, ("sum", (0, 1, 7), 8, 6), ()), False)
        self.assertEqual([is_true(1, VOID, (0,) * many) for many in (0, 1, 2)], [True, False, False])

    def test_sixty_letters(self):
        text = (0,) * 59 + (1,)
        self.assertIs(is_true(2, ("ends", (0, 0, 0, 0, 0, 1)), text), True)
        self.assertIs(is_true(2, ("begins", (0, 0, 0, 0, 0, 0)), text), True)
        self.assertIs(is_true(2, ("sum", (1, 1), 7, 4), text), True)
        self.assertEqual(error_of(is_true, 2, VOID, text + (0,)), bad("BadText"))


class TestQuestionOf(unittest.TestCase):
    def check(self, letters, ask, longest):
        found = question_of(letters, ask)
        self.assertEqual([type(found), type(found[1]), type(found[2])], [tuple] * 3)
        self.assertLessEqual(len(found[1]), 40)
        self.assertEqual(least(found), found, (letters, ask))
        for text in short_texts(letters, longest):
            answer = slow_answer(found, text)
            self.assertIs(type(answer), int)
            self.assertEqual(answer, int(slow_true(ask, text)), (letters, ask, text))
        return found

    def test_plain(self):
        for letters, longest in ((1, 12), (2, 7), (3, 5)):
            for ask in plain_asks(letters):
                self.check(letters, ask, longest)

    def test_long_texts(self):
        chance = random.Random(2)
        for _ in range(150):
            letters = chance.randint(1, 3)
            ask = any_plain(chance, letters)
            found = question_of(letters, ask)
            for _ in range(40):
                # Texts made of the word in part, so that there is something to know.
                text = any_text(chance, letters, chance.randint(0, 20))
                if ask[0] in ("begins", "ends", "holds", "repeats"):
                    text = ask[1] * chance.randint(0, 3) + text[:chance.randint(0, 2)] + ask[1] * chance.randint(0, 2)
                self.assertEqual(slow_answer(found, text), int(slow_true(ask, text)), (ask, text))

    def test_joined(self):
        chance = random.Random(3)
        made = 0
        for _ in range(250):
            letters = chance.randint(1, 3)
            ask = any_ask(chance, letters, chance.randint(2, 4))
            error = error_of(question_of, letters, ask)
            if error is None:
                made += 1
                self.check(letters, ask, {1: 14, 2: 7, 3: 5}[letters])
                for _ in range(20):
                    text = any_text(chance, letters, chance.randint(0, 60))
                    self.assertEqual(slow_answer(question_of(letters, ask), text), int(is_true(letters, ask, text)))
            else:
                self.assertIn(error, (bad("TooMany", most=40), bad("TooMany", most=2000)))
        self.assertGreater(made, 150)

    def test_sizes(self):
        word = (0, 1, 0, 0, 1, 0)
        many = {"begins": 8, "ends": 7, "holds": 7, "repeats": 7}
        for kind, states in many.items():
            self.assertEqual(len(question_of(2, (kind, word))[1]), states, kind)
        self.assertEqual(len(question_of(2, ("repeats", (0, 1, 0)))[1]), 4)
        for times in range(1, 7):
            self.assertEqual(len(question_of(3, ("least", times, 2))[1]), times + 1)
        for modulus in range(2, 9):
            self.assertEqual(len(question_of(2, ("sum", (1, 0), modulus, 0))[1]), modulus)
        self.assertEqual(question_of(2, ("sum", (0, 0), 5, 0)), (2, ((0, 0),), (1,)))
        self.assertEqual(question_of(2, ("sum", (0, 0), 5, 3)), (2, ((0, 0),), (0,)))
        self.assertEqual(question_of(1, ("begins", (0, 0))), (1, ((1,), (2,), (2,)), (0, 0, 1)))
        self.assertEqual(question_of(2, VOID), (2, ((1, 1), (1, 1)), (1, 0)))
        self.assertEqual(question_of(1, ("or", VOID, ("not", VOID))), (1, ((0,),), (1,)))

    def test_just_forty_states(self):
        five, eight = ("sum", (1, 0), 5, 0), ("sum", (0, 1), 8, 0)
        self.assertEqual(len(question_of(2, ("and", five, eight))[1]), 40)
        seven, six = ("sum", (1, 0), 7, 0), ("sum", (0, 1), 6, 0)
        self.assertEqual(error_of(question_of, 2, ("and", seven, six)), bad("TooMany", most=40))
        self.assertEqual(len(question_of(1, ("and", ("sum", (1,), 5, 0), ("sum", (1,), 8, 0)))[1]), 40)
        self.assertEqual(error_of(question_of, 1, ("and", ("sum", (1,), 7, 0), ("sum", (1,), 6, 0))), bad("TooMany", most=40))
        # 7 times 6 with one state that is past all: more than 40 as well.
        capped = ("and", ("least", 5, 0), ("least", 6, 1))
        self.assertEqual(error_of(question_of, 2, capped), bad("TooMany", most=40))

    def test_rows_that_are_no_states(self):
        # 5 * 7 * 8 rows, of which nothing is asked in the end.
        three = [("sum", (1, 0, 0), 5, 0), ("sum", (0, 1, 0), 7, 0), ("sum", (0, 0, 1), 8, 0)]
        never = ("and", VOID, ("not", VOID))
        self.assertEqual(question_of(3, ("and", joined("or", three), never)), (3, ((0, 0, 0),), (0,)))

    def test_too_many_rows(self):
        # Remainders of 8 and 7 tell the same number of letters, but as many rows come as by unlike letters.
        def total(modulus, letter):
            return "sum", tuple(int(at == letter) for at in range(3)), modulus, 0

        def most(plains, letters=3):
            return error_of(question_of, letters, joined("or", plains))

        two = [total(8, 0), total(7, 0), total(5, 1)]
        self.assertEqual(most(two), bad("TooMany", most=40))
        self.assertEqual(most(two + [total(7, 1)]), bad("TooMany", most=40))
        # 8 * 7 * 5 * 7 = 1960, and twice that with 2 of another one.
        self.assertEqual(most(two + [total(7, 1), total(2, 2)]), bad("TooMany", most=2000))
        # The void text is in a row of its own: 1961; the texts that have a letter can have all of the others.
        self.assertEqual(most(two + [total(7, 1), VOID]), bad("TooMany", most=40))
        # Again and again the same: no more rows.
        self.assertEqual(most((two + [total(7, 1)]) * 4), bad("TooMany", most=40))
        # Both at once, and rows alone, where the question would have one state.
        never = ("and", VOID, ("not", VOID))
        rows = joined("or", two + [total(7, 1), total(2, 2)])
        self.assertEqual(error_of(question_of, 3, ("and", rows, never)), bad("TooMany", most=2000))
        self.assertEqual(error_of(question_of, 3, ("or", rows, ("not", never))), bad("TooMany", most=2000))
        self.assertEqual(question_of(3, ("and", joined("or", two), never)), (3, ((0, 0, 0),), (0,)))

    def test_just_two_thousand_rows(self):
        def rows_of(plains, letters):
            """How many unlike rows come of what must be known, told as the document tells it."""
            first = tuple(slow_known(plain, ()) for plain in plains)
            found, texts = {first}, [()]
            while texts:
                later = []
                for text in texts:
                    for letter in range(letters):
                        longer = text + (letter,)
                        row = tuple(slow_known(plain, longer) for plain in plains)
                        if row not in found:
                            found.add(row)
                            later.append(longer)
                texts = later
            return len(found)

        def total(modulus, letter):
            return "sum", tuple(int(at == letter) for at in range(3)), modulus, 0

        tried = [
            [total(8, 0), total(5, 0), total(5, 1), total(2, 1), total(5, 2)],
            [total(8, 0), total(5, 0), ("least", 4, 1), total(5, 2), total(2, 2)],
            [total(8, 0), total(5, 0), ("least", 4, 1), total(5, 2), total(2, 2), VOID],
            [total(8, 0), ("least", 4, 1), total(7, 1), total(5, 2), total(2, 2)],
            [total(8, 0), ("repeats", (0, 1, 2)), total(7, 1), total(6, 2), ("holds", (1,))],
            [total(7, 0), ("ends", (0, 1)), total(7, 1), total(7, 2), ("begins", (1, 2))],
            [total(7, 0), ("ends", (0, 1)), total(7, 1), total(5, 2), ("begins", (1, 2))],
            [total(7, 0), ("holds", (0, 1, 0)), total(7, 1), total(8, 2)],
            [total(8, 0), ("holds", (0, 1, 0)), total(8, 1), total(8, 2)],
        ]
        seen = set()
        for plains in tried:
            # What it asks in the end is never true.
            ask = ("and", joined("or", plains), ("and", plains[0], ("not", plains[0])))
            many = rows_of(plains, 3)
            seen.add(many)
            expected = bad("TooMany", most=2000) if many > 2000 else None
            self.assertEqual(error_of(question_of, 3, ask), expected, (plains, many))
        self.assertIn(2000, seen)
        self.assertIn(2001, seen)


def slow_known(plain, text):
    """What must be known of a text for a plain ask, by the document's words."""
    word = plain[0]
    if word == "void":
        return len(text) > 0
    if word == "sum":
        return sum(plain[1][letter] for letter in text) % plain[2]
    if word == "least":
        return min(text.count(plain[2]), plain[1])
    named = plain[1]
    if word in ("ends", "holds"):
        if word == "holds" and any(text[at:at + len(named)] == named for at in range(len(text))):
            return len(named)
        return max(many for many in range(len(named) + 1) if many <= len(text) and text[len(text) - many:] == named[:many])
    if word == "begins":
        return min(len(text), len(named)) if text[:len(named)] == named[:len(text)] else -1
    return len(text) % len(named) if (named * (len(text) + 1))[:len(text)] == text else -1


class TestBounds(unittest.TestCase):
    def test_within_one_another(self):
        for many in range(6):
            for ask in (nots(many, VOID), nots(many, ("ends", (0,)))):
                self.assertEqual(depth_of(ask), many + 1)
                self.assertIsNone(error_of(is_true, 2, ask, ()))
                self.assertIsNone(error_of(question_of, 2, ask))
        for many in (6, 7, 8, 50, 20000):
            for call, rest in ((is_true, ((),)), (question_of, ())):
                self.assertEqual(error_of(call, 2, nots(many, VOID), *rest), bad("BadAsk"))
        # On any side, and whatever they are.
        deep = nots(4, VOID)
        for word in ("and", "or"):
            self.assertIsNone(error_of(is_true, 2, (word, deep, VOID), ()))
            self.assertIsNone(error_of(is_true, 2, (word, VOID, deep), ()))
            self.assertEqual(error_of(is_true, 2, (word, nots(5, VOID), VOID), ()), bad("BadAsk"))
            self.assertEqual(error_of(is_true, 2, (word, VOID, nots(5, VOID)), ()), bad("BadAsk"))
        ask = VOID
        for at in range(7):
            self.assertEqual(error_of(question_of, 1, ask), None if depth_of(ask) <= 6 else bad("BadAsk"))
            self.assertEqual(depth_of(ask), at + 1)
            ask = (("and", ask, VOID), ("or", VOID, ask), ("not", ask))[at % 3]

    def test_plain_ones(self):
        plains = [("ends", (at % 2,)) for at in range(40)]
        for many in range(1, 33):
            ask = joined("and", plains[:many])
            self.assertEqual(plains_in(ask), many)
            self.assertLessEqual(depth_of(ask), 6)
            expected = None if many <= 16 else bad("BadAsk")
            self.assertEqual(error_of(is_true, 2, ask, ()), expected, many)
            self.assertEqual(error_of(question_of, 2, ask), expected, many)
        # Each is counted as often as it stands there, those alike and those within one ask that stands there twice.
        twice = joined("or", [VOID] * 8)
        self.assertIsNone(error_of(is_true, 2, ("and", twice, twice), ()))
        self.assertEqual(error_of(is_true, 2, ("and", ("and", twice, twice), VOID), ()), bad("BadAsk"))
        self.assertEqual(error_of(is_true, 2, joined("and", [VOID] * 17), ()), bad("BadAsk"))

    def test_numbers_there_are(self):
        for letters in (1, 2, 3):
            for letter in range(-1, 5):
                expected = None if 0 <= letter < letters else bad("BadAsk")
                for ask in (("least", 1, letter), ("begins", (letter,)), ("ends", (0, letter)), ("repeats", (letter, 0))):
                    self.assertEqual(error_of(is_true, letters, ask, ()), expected, (letters, ask))
            for many in range(-1, 9):
                self.assertEqual(error_of(is_true, letters, ("least", many, 0), ()), None if 1 <= many <= 6 else bad("BadAsk"))
                for kind in ("begins", "ends", "holds", "repeats"):
                    expected = None if 1 <= many <= 6 else bad("BadAsk")
                    self.assertEqual(error_of(is_true, letters, (kind, (0,) * many), ()), expected)
                self.assertEqual(error_of(is_true, letters, ("sum", (1,) * many, 3, 0), ()), None if many == letters else bad("BadAsk"))
            for modulus, weight, rest in itertools.product(range(-1, 11), repeat=3):
                right = 2 <= modulus <= 8 and 0 <= weight < modulus and 0 <= rest < modulus
                ask = ("sum", (0,) * (letters - 1) + (weight,), modulus, rest)
                self.assertEqual(error_of(is_true, letters, ask, ()), None if right else bad("BadAsk"), ask)


class TestWrong(unittest.TestCase):
    def test_arguments(self):
        check_arguments(self, is_true, [2, ("not", VOID), (0, 1)], [WRONG_LETTERS, WRONG_ASKS, WRONG_TEXTS])
        check_arguments(self, question_of, [2, ("not", VOID)], [WRONG_LETTERS, WRONG_ASKS])

    def test_wrong_within(self):
        for at, value in enumerate(NOT_ASKS):
            for ask in (("not", value), ("and", VOID, value), ("or", value, VOID), ("not", ("and", ("not", value), VOID))):
                self.assertEqual(error_of(is_true, 2, ask, ()), bad("BadAsk"), at)
                self.assertEqual(error_of(question_of, 2, ask), bad("BadAsk"), at)

    def test_too_many_behind_others(self):
        sums = [("sum", (modulus - 1, 1), modulus, 0) for modulus in (8, 7, 5, 6)]
        ask = joined("and", sums)
        self.assertEqual(error_of(question_of, 2, ask)[0], "TooMany")
        self.assertEqual(error_of(question_of, 4, ask), bad("BadNumber"))
        self.assertEqual(error_of(question_of, 3, ask), bad("BadAsk"))
        # Of a text it is told all the same.
        self.assertIs(is_true(2, ask, ()), True)

    def test_texts_of_other_letters(self):
        self.assertEqual(error_of(is_true, 1, VOID, (1,)), bad("BadText"))
        self.assertIs(is_true(2, VOID, (1,)), False)


class TestUnchanged(unittest.TestCase):
    def test_arguments(self):
        chance = random.Random(4)
        for _ in range(40):
            letters = chance.randint(1, 3)
            ask, text = any_ask(chance, letters, 3), any_text(chance, letters, 9)
            kept = copy.deepcopy((ask, text))
            found = is_true(letters, ask, text)
            self.assertIs(is_true(letters, ask, text), found)
            self.assertEqual(error_of(question_of, letters, ask), error_of(question_of, letters, ask))
            self.assertEqual((ask, text), kept)
        for value in (["not", ["void"]], ("not", ["void"]), [], {}, {"void": ["void"]}, ("begins", [0])):
            before = copy.deepcopy(value)
            for call in (lambda: is_true(2, value, ()), lambda: question_of(2, value), lambda: is_true(2, VOID, value)):
                self.assertIsNotNone(error_of(call))
            self.assertEqual(value, before)

    def test_kinds(self):
        for ask in plain_asks(2):
            self.assertIs(type(is_true(2, ask, (0,))), bool)


if __name__ == "__main__":
    unittest.main()

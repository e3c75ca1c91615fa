import copy
import random
import unittest

from helpers import (
    DEEP, DEEP_LIST, VOID, WRONG_ASKS, WRONG_LETTERS, WRONG_STRINGS, any_ask, any_plain, bad, check_arguments, depth_of,
    error_of, joined, nots, plain_asks, plains_in,
)
from toldwhat import phrases
from toldwhat.phrases import read_ask, write_ask

NAMES = "abc"
KINDS = ("begins", "ends", "holds", "repeats", "least", "sum", "void")

# Words that may come in anywhere, right ones and wrong ones.
VOCABULARY = KINDS + (
    "not", "(", ")", "and", "or", "mod", "is", "a", "b", "c", "d", "ab", "ba", "abc", "aaaaaa", "aaaaaaa", "cc", "A", "AB",
    "0", "1", "2", "3", "4", "5", "6", "7", "8", "9", "10", "12", "00", "01", "-1", "+1", "1.0", "", "Not", "NOT", "And",
    "Void", "voidx", "((", "()", ")(", "notvoid", "\tvoid", "void\t", "void\n", "\n", "\t", "a\n", "1\n", "\u00b2", "\u0663",
    "\uff11", "\u0430", "a\u0301", "\u00a0", "\u2003", "\x00", "mod2", "=", ",", "least1a", "e\u0301", "\ud800", "it", "sum1",
)


def slow_write(ask):
    """The text of an ask, by the document's words."""
    word = ask[0]
    if word == "not":
        return "not " + slow_write(ask[1])
    if word in ("and", "or"):
        return f"( {slow_write(ask[1])} {word} {slow_write(ask[2])} )"
    if word == "least":
        return f"least {ask[1]} {NAMES[ask[2]]}"
    if word == "sum":
        return f"sum {' '.join(str(weight) for weight in ask[1])} mod {ask[2]} is {ask[3]}"
    return "void" if word == "void" else f"{word} {''.join(NAMES[letter] for letter in ask[1])}"


def slow_wrong_of_sum(letters, words, at):
    """The number of the first wrong word of a sum whose weights begin at a word, None if none is, and where it ends."""
    allowed = [set("01234567")] * letters + [{"mod"}, set("2345678"), {"is"}]
    for more, right in enumerate(allowed):
        if at + more >= len(words) or words[at + more] not in right:
            return at + more + 1, None
        if more == letters + 1:
            for place in range(letters):
                if int(words[at + place]) >= int(words[at + more]):
                    return at + place + 1, None
    end = at + len(allowed)
    if end >= len(words) or words[end] not in set("01234567"[:int(words[end - 2])]):
        return end + 1, None
    return None, end + 1


def slow_wrong(letters, text):
    """The number of the first word that cannot stand, or of one that is lacking; None if the text tells an ask."""
    words = [word for word in text.split(" ") if word]
    names = NAMES[:letters]
    left, at, plains = [1], 0, 0
    while left:
        wanted = left.pop()
        word = words[at] if at < len(words) else None
        if type(wanted) is set:
            if word not in wanted:
                return at + 1
        elif wanted == "word":
            if word is None or len(word) > 6 or set(word) - set(names):
                return at + 1
        elif word in ("not", "("):
            # What stands within is one deeper.
            if wanted + 1 > 6:
                return at + 1
            left += [wanted + 1] if word == "not" else [{")"}, wanted + 1, {"and", "or"}, wanted + 1]
        elif word in KINDS:
            plains += 1
            if plains > 16:
                return at + 1
            if word == "sum":
                wrong, end = slow_wrong_of_sum(letters, words, at + 1)
                if wrong:
                    return wrong
                at = end - 1
            elif word == "least":
                left += [set(names), set("123456")]
            elif word != "void":
                left.append("word")
        else:
            return at + 1
        at += 1
    return at + 1 if at < len(words) else None


class TestInterface(unittest.TestCase):
    def test_examples(self):
        found = read_ask(2, "( ends a and not sum 1 0 mod 2 is 1 )")
        self.assertEqual(found, ("and", ("ends", (0,)), ("not", ("sum", (1, 0), 2, 1))))
        self.assertEqual(error_of(read_ask, 2, "holds abc"), ("BadLine", {"line": 1, "word": 2}))

    def test_defined_here(self):
        for name in ("write_ask", "read_ask"):
            self.assertEqual(getattr(phrases, name).__module__, "toldwhat.phrases")

    def test_names_of_arguments(self):
        self.assertEqual(write_ask(letters=1, ask=VOID), "void")
        self.assertEqual(read_ask(letters=1, text="void"), VOID)


class TestThereAndBack(unittest.TestCase):
    def check(self, letters, ask):
        text = write_ask(letters, ask)
        self.assertIs(type(text), str)
        self.assertEqual(text, slow_write(ask))
        self.assertEqual(read_ask(letters, text), ask)
        self.assertIsNone(slow_wrong(letters, text))

    def test_plain(self):
        for letters in (1, 2, 3):
            for ask in plain_asks(letters):
                self.check(letters, ask)
                self.check(letters, ("not", ask))

    def test_joined(self):
        chance = random.Random(1)
        for _ in range(500):
            letters = chance.randint(1, 3)
            ask = any_ask(chance, letters, chance.randint(1, 6))
            if plains_in(ask) <= 16:
                self.check(letters, ask)

    def test_bounds(self):
        for many in range(6):
            self.check(1, nots(many, VOID))
        for word in ("and", "or"):
            for many in range(1, 17):
                self.check(1, joined(word, [VOID] * many))
        self.check(3, ("sum", (7, 0, 6), 8, 7))
        self.check(3, ("repeats", (2, 1, 0, 0, 1, 2)))

    def test_written_out(self):
        told = {
            "begins ab": ("begins", (0, 1)), "ends cba": ("ends", (2, 1, 0)), "holds aaaaaa": ("holds", (0,) * 6),
            "repeats b": ("repeats", (1,)), "least 6 c": ("least", 6, 2), "sum 0 7 3 mod 8 is 5": ("sum", (0, 7, 3), 8, 5),
            "void": VOID, "not void": ("not", VOID), "not not void": ("not", ("not", VOID)),
            "( void and void )": ("and", VOID, VOID), "( void or not void )": ("or", VOID, ("not", VOID)),
            "not ( void or void )": ("not", ("or", VOID, VOID)),
            "( ( void and void ) or ( void and void ) )": ("or", ("and", VOID, VOID), ("and", VOID, VOID)),
        }
        for text, ask in told.items():
            self.assertEqual([read_ask(3, text), write_ask(3, ask)], [ask, text])

    def test_kinds(self):
        found = read_ask(2, "( least 3 a or sum 1 0 mod 2 is 1 )")
        self.assertEqual([type(part) for part in found], [str, tuple, tuple])
        self.assertEqual([type(part) for part in found[1]], [str, int, int])
        self.assertEqual([type(part) for part in found[2]], [str, tuple, int, int])
        self.assertIs(type(read_ask(2, "ends a")[1]), tuple)


class TestRead(unittest.TestCase):
    def check(self, letters, text):
        """What is read by the document's words: the ask, or the word that is wrong."""
        wrong = slow_wrong(letters, text)
        if wrong is None:
            ask = read_ask(letters, text)
            self.assertEqual(write_ask(letters, ask), " ".join([word for word in text.split(" ") if word]))
        else:
            self.assertEqual(error_of(read_ask, letters, text), bad("BadLine", line=1, word=wrong), (letters, text))
        return wrong

    def texts(self, seed, times):
        chance = random.Random(seed)
        yield from ((2, text) for text in ("void", "( ends a and not sum 1 0 mod 2 is 1 )", "not least 2 b", "holds ab"))
        for _ in range(times):
            letters = chance.randint(1, 3)
            ask = any_ask(chance, letters, chance.randint(1, 6)) if chance.randrange(4) else any_plain(chance, letters)
            if plains_in(ask) <= 16:
                yield letters, slow_write(ask)

    def test_one_word_changed(self):
        chance = random.Random(2)
        read = 0
        for letters, text in self.texts(3, 150):
            words = text.split(" ")
            for at in range(len(words)):
                for word in chance.sample(VOCABULARY, 12):
                    read += self.check(letters, " ".join([*words[:at], word, *words[at + 1:]])) is None
        self.assertGreater(read, 50)

    def test_one_word_left_out_or_more_of_them(self):
        for letters, text in self.texts(4, 250):
            words = text.split(" ")
            for at in range(len(words)):
                self.check(letters, " ".join([*words[:at], *words[at + 1:]]))
                self.check(letters, " ".join(words[at:]))
                self.check(letters, " ".join([*words, *words[at:]]))

    def test_one_word_put_in(self):
        chance = random.Random(5)
        for letters, text in self.texts(6, 150):
            words = text.split(" ")
            for at in range(len(words) + 1):
                for word in chance.sample(VOCABULARY, 8):
                    self.check(letters, " ".join([*words[:at], word, *words[at:]]))

    def test_any_words(self):
        chance = random.Random(7)
        for _ in range(3000):
            words = [chance.choice(VOCABULARY[:46]) for _ in range(chance.randint(1, 9))]
            self.check(chance.randint(1, 3), " ".join(words))

    def test_lacking(self):
        """Each text cut off behind a word: all words can stand, and something is lacking."""
        for letters, text in self.texts(8, 150):
            words = text.split(" ")
            for many in range(len(words)):
                expected = bad("BadLine", line=1, word=many + 1)
                self.assertEqual(error_of(read_ask, letters, " ".join(words[:many])), expected, (letters, text))

    def test_left_over(self):
        for letters, text in self.texts(9, 60):
            many = len(text.split(" "))
            for word in VOCABULARY:
                if word:
                    expected = bad("BadLine", line=1, word=many + 1)
                    self.assertEqual(error_of(read_ask, letters, f"{text} {word}"), expected, (letters, text, word))
                    self.assertEqual(error_of(read_ask, letters, f"{text}   {word} {word}"), expected)

    def test_void_text(self):
        for letters in (1, 2, 3):
            for text in ("", " ", "     "):
                self.assertEqual(error_of(read_ask, letters, text), bad("BadLine", line=1, word=1))

    def test_many_spaces(self):
        chance = random.Random(10)
        for letters, text in self.texts(11, 100):
            spaced = "".join(" " * chance.randint(1, 4) + word for word in text.split(" ")) + " " * chance.randint(0, 3)
            self.assertEqual(read_ask(letters, spaced), read_ask(letters, text))
            self.assertEqual(read_ask(letters, text.replace(" ", "  ")), read_ask(letters, text))
            for word in chance.sample(VOCABULARY, 5):
                self.check(letters, f" {spaced} {word}")

    def test_no_other_spaces(self):
        for sign in ("\t", "\n", "\r", "\u00a0", "\u2003", "\x0b", "\x1f"):
            self.assertEqual(error_of(read_ask, 2, f"ends{sign}a"), bad("BadLine", line=1, word=1))
            self.assertEqual(error_of(read_ask, 2, f"ends a{sign}"), bad("BadLine", line=1, word=2))
            self.assertEqual(error_of(read_ask, 2, f"{sign}ends a"), bad("BadLine", line=1, word=1))
            self.assertEqual(error_of(read_ask, 2, f"ends a {sign}"), bad("BadLine", line=1, word=3))
            # The line is the first one whatever stands there.
            self.assertEqual(error_of(read_ask, 2, f"{sign} ends a"), bad("BadLine", line=1, word=1))
        self.assertEqual(error_of(read_ask, 2, "void\nvoid"), bad("BadLine", line=1, word=1))

    def test_figures(self):
        for word in ("\u00b2", "\u0662", "\uff12", "2.", "+2", "-2", "02", "22", "two", "a", "", "2\n", "\u2461", "10"):
            if word:
                self.assertEqual(error_of(read_ask, 1, f"least {word} a"), bad("BadLine", line=1, word=2), word)
                self.assertEqual(error_of(read_ask, 1, f"sum {word} mod 3 is 0"), bad("BadLine", line=1, word=2), word)
                self.assertEqual(error_of(read_ask, 1, f"sum 1 mod {word} is 0"), bad("BadLine", line=1, word=4), word)
                self.assertEqual(error_of(read_ask, 1, f"sum 1 mod 3 is {word}"), bad("BadLine", line=1, word=6), word)
        for many in range(10):
            expected = None if 1 <= many <= 6 else bad("BadLine", line=1, word=2)
            self.assertEqual(error_of(read_ask, 2, f"least {many} b"), expected)

    def test_capital_letters(self):
        for text, word in {
            "Void": 1, "VOID": 1, "Not void": 1, "not Void": 2, "ends A": 2, "Ends a": 1, "ends aB": 2, "least 1 A": 3,
            "( void And void )": 3, "( void AND void )": 3, "sum 1 MOD 2 is 0": 3, "sum 1 mod 2 IS 0": 5,
        }.items():
            self.assertEqual(error_of(read_ask, 1, text), bad("BadLine", line=1, word=word), text)

    def test_letters_there_are(self):
        for letters in (1, 2, 3):
            for at, name in enumerate("abcd"):
                wrong = at >= letters
                self.assertEqual(error_of(read_ask, letters, f"ends {name}"), bad("BadLine", line=1, word=2) if wrong else None)
                self.assertEqual(error_of(read_ask, letters, f"ends a{name}"), bad("BadLine", line=1, word=2) if wrong else None)
                self.assertEqual(error_of(read_ask, letters, f"least 1 {name}"), bad("BadLine", line=1, word=3) if wrong else None)
        self.assertEqual(error_of(read_ask, 2, "least 1 ab"), bad("BadLine", line=1, word=3))
        for many in range(1, 10):
            expected = None if many <= 6 else bad("BadLine", line=1, word=2)
            self.assertEqual(error_of(read_ask, 2, "holds " + "a" * many), expected)
        self.assertEqual(error_of(read_ask, 2, "holds " + "a" * 100000), bad("BadLine", line=1, word=2))
        # A word side by side, not letter by letter.
        self.assertEqual(error_of(read_ask, 2, "holds a b"), bad("BadLine", line=1, word=3))

    def test_seven_within_one_another(self):
        self.assertEqual(depth_of(read_ask(1, "not " * 5 + "void")), 6)
        for many in (6, 7, 8, 100, 10000):
            self.assertEqual(error_of(read_ask, 1, "not " * many + "void"), bad("BadLine", line=1, word=6))
            self.assertEqual(error_of(read_ask, 1, "not " * many), bad("BadLine", line=1, word=6))
            self.assertEqual(error_of(read_ask, 1, "( " * many), bad("BadLine", line=1, word=6))
        self.assertEqual(error_of(read_ask, 1, "not " * 5), bad("BadLine", line=1, word=6))
        self.assertEqual(error_of(read_ask, 1, "( " * 5), bad("BadLine", line=1, word=6))
        self.assertEqual(error_of(read_ask, 1, "not ( not ( not not void"), bad("BadLine", line=1, word=6))
        self.assertEqual(error_of(read_ask, 1, "not ( not ( not ( void"), bad("BadLine", line=1, word=6))
        # Behind others that are done, on the other side.
        text = "( void and ( void or ( void and ( void or not void ) ) ) )"
        self.assertEqual(depth_of(read_ask(1, text)), 6)
        words = text.split(" ")
        at = words.index("not")
        for word in ("not", "("):
            longer = " ".join([*words[:at + 1], word, *words[at + 1:]])
            self.assertEqual(error_of(read_ask, 1, longer), bad("BadLine", line=1, word=at + 2))

    def test_seventeenth_plain_one(self):
        for many in range(17, 33):
            text = slow_write(joined("and", [VOID] * many))
            words = text.split(" ")
            at = [place for place, word in enumerate(words) if word == "void"][16]
            self.assertEqual(error_of(read_ask, 1, text), bad("BadLine", line=1, word=at + 1))
            # Wrong itself, by its first word; what stands ahead of it can stand.
            self.assertEqual(error_of(read_ask, 1, " ".join(words[:at])), bad("BadLine", line=1, word=at + 1))
            for plain in ("sum 9", "least", "ends x", "begins"):
                longer = " ".join([*words[:at], plain])
                self.assertEqual(error_of(read_ask, 1, longer), bad("BadLine", line=1, word=at + 1))
        # A not and a bracket may stand there still.
        half = slow_write(joined("and", [VOID] * 16))
        for more, word in (("not", 1), ("not void", 1), ("( void", 1)):
            begun = f"( {half} or {more}"
            many = len(f"( {half} or".split(" "))
            self.assertEqual(error_of(read_ask, 1, begun), bad("BadLine", line=1, word=many + 2), more)

    def test_weights(self):
        for weight in range(10):
            for modulus in range(10):
                text = f"sum 0 {weight} mod {modulus} is 0"
                if weight >= 8:
                    expected = bad("BadLine", line=1, word=3)
                elif not 2 <= modulus <= 8:
                    expected = bad("BadLine", line=1, word=5)
                else:
                    expected = bad("BadLine", line=1, word=3) if weight >= modulus else None
                self.assertEqual(error_of(read_ask, 2, text), expected, text)

    def test_weights_from_the_modulus_on(self):
        for text, word in {
            "sum 5 1 mod 5 is 0": 2, "sum 1 5 mod 5 is 0": 3, "sum 7 6 mod 5 is 0": 2, "sum 5 1 mod 5": 2, "sum 5 1 mod 5 x": 2,
            "sum 5 1 mod 5 is 9": 2, "sum 5 8 mod 5 is 0": 3, "sum 8 5 mod 5 is 0": 2, "sum 5 x mod 5 is 0": 3,
            "sum 5 1 mud 5 is 0": 4, "sum 5 1 mod 9 is 0": 5, "sum 5 1 mod 1 is 0": 5, "sum 5 1 mod": 5, "sum 5 1": 4,
            "sum 5": 3, "sum": 2, "sum 5 1 mod x is 0": 5, "sum 5 1 mod 5 5 5": 2, "sum 4 1 mod 5 iss 0": 6,
            "sum 4 1 mod 5 is 5": 7, "sum 4 1 mod 5 is": 7, "sum 4 1 mod 5": 6, "sum 4 mod 5 is 0": 3, "sum 4 1 1 mod 5 is 0": 4,
            "sum 7 7 mod 8 is 7": None, "sum 7 7 mod 7 is 7": 2, "sum 2 2 mod 2 is 0": 2, "not sum 0 2 mod 2 is 0": 4,
        }.items():
            expected = None if word is None else bad("BadLine", line=1, word=word)
            self.assertEqual(error_of(read_ask, 2, text), expected, text)
            self.assertEqual(slow_wrong(2, text), word, text)

    def test_rests(self):
        for modulus in range(2, 9):
            for rest in range(10):
                expected = None if rest < modulus else bad("BadLine", line=1, word=6)
                self.assertEqual(error_of(read_ask, 1, f"sum 0 mod {modulus} is {rest}"), expected)

    def test_brackets(self):
        for text, word in {
            "( void )": 3, "( void and void": 5, "( void and )": 4, "( and void )": 2, "void and void": 2, "( void void )": 3,
            "( void and void and void )": 5, ")": 1, "( )": 2, "(void and void )": 1, "( void and void)": 4,
            "not": 2, "not not": 3, "not )": 2, "not and": 2, "and": 1, "( void or void ) )": 6, "( not and": 3, "a": 1,
        }.items():
            self.assertEqual(error_of(read_ask, 1, text), bad("BadLine", line=1, word=word), text)

    def test_long_texts(self):
        self.assertEqual(error_of(read_ask, 1, "void " * 100000), bad("BadLine", line=1, word=2))
        self.assertEqual(error_of(read_ask, 1, "x" * 1000000), bad("BadLine", line=1, word=1))
        self.assertEqual(read_ask(1, " " * 100000 + "void" + " " * 100000), VOID)


class TestWrong(unittest.TestCase):
    def test_arguments(self):
        check_arguments(self, write_ask, [2, ("not", VOID)], [WRONG_LETTERS, WRONG_ASKS])
        check_arguments(self, read_ask, [2, "not void"], [WRONG_LETTERS, WRONG_STRINGS])

    def test_wrong_letters_first(self):
        for value in (None, True, 0, 4, "2", DEEP, DEEP_LIST):
            self.assertEqual(error_of(read_ask, value, "holds"), bad("BadNumber"))
            self.assertEqual(error_of(read_ask, value, None), bad("BadNumber"))
            self.assertEqual(error_of(write_ask, value, None), bad("BadNumber"))

    def test_asks_of_other_letters(self):
        self.assertEqual(error_of(write_ask, 1, ("ends", (1,))), bad("BadAsk"))
        self.assertEqual(error_of(write_ask, 3, ("sum", (1, 0), 2, 0)), bad("BadAsk"))
        self.assertEqual(error_of(write_ask, 1, nots(6, VOID)), bad("BadAsk"))
        self.assertEqual(error_of(write_ask, 1, joined("or", [VOID] * 17)), bad("BadAsk"))

    def test_unchanged(self):
        for value in (["not", ["void"]], ("not", ["void"]), [], {"void": [0]}, ["void"]):
            before = copy.deepcopy(value)
            self.assertEqual(error_of(write_ask, 2, value), bad("BadAsk"))
            self.assertEqual(error_of(read_ask, 2, value), bad("BadString"))
            self.assertEqual(value, before)
        chance = random.Random(12)
        for _ in range(30):
            ask = any_ask(chance, 2, 3)
            kept = copy.deepcopy(ask)
            text = write_ask(2, ask)
            self.assertEqual([write_ask(2, ask), read_ask(2, text), read_ask(2, text)], [text, ask, ask])
            self.assertEqual(ask, kept)


if __name__ == "__main__":
    unittest.main()

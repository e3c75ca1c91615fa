"""Asks as text: the words that tell an ask, and the ask that words tell."""

from toldwhat.asks import JOINING, MOST_MODULUS, MOST_PLAIN, MOST_TIMES, MOST_WITHIN, MOST_WORD, WORDED, check_ask
from toldwhat.checks import check_letters
from toldwhat.errors import BadLine
from toldwhat.words import FIGURES, LETTERS, check_string, words_of

# The words with which a plain ask begins, and those with which one begins that has others within.
PLAIN = ("begins", "ends", "holds", "repeats", "least", "sum", "void")
HAVING = ("not", "(")


def write_ask(letters, ask):
    """The text of an ask."""
    check_letters(letters)
    check_ask(letters, ask)
    return " ".join(words_for(ask))


def read_ask(letters, text):
    """The ask that a text tells."""
    check_letters(letters)
    check_string(text)
    phrase = Phrase(letters, words_of(text))
    ask = phrase.ask(1)
    phrase.end()
    return ask


def words_for(ask):
    """The words that tell an ask."""
    word = ask[0]
    if word == "not":
        return [word] + words_for(ask[1])
    if word in JOINING:
        return ["("] + words_for(ask[1]) + [word] + words_for(ask[2]) + [")"]
    if word in WORDED:
        return [word, "".join([LETTERS[letter] for letter in ask[1]])]
    if word == "least":
        return [word, str(ask[1]), LETTERS[ask[2]]]
    if word == "sum":
        return [word] + [str(weight) for weight in ask[1]] + ["mod", str(ask[2]), "is", str(ask[3])]
    return [word]


class Phrase:
    """Words that are read from left to right."""

    def __init__(self, letters, words):
        self.letters = letters
        self.words = words
        self.done = 0
        self.plains = 0

    def ask(self, depth):
        """The ask that the next words tell, so deep within others."""
        # In one that has others within, an ask is deeper still.
        having = HAVING if depth < MOST_WITHIN else ()
        word = self.take(having + PLAIN if self.plains < MOST_PLAIN else having)
        if word == "not":
            return word, self.ask(depth + 1)
        if word == "(":
            one = self.ask(depth + 1)
            joining = self.take(JOINING)
            other = self.ask(depth + 1)
            self.take((")",))
            return joining, one, other
        self.plains += 1
        return self.plain(word)

    def plain(self, word):
        """The plain ask that a word and the next words tell."""
        if word in WORDED:
            return word, self.letters_together()
        if word == "least":
            many = self.figure(1, MOST_TIMES)
            return word, many, LETTERS.index(self.take(LETTERS[:self.letters]))
        if word == "sum":
            return self.weighing()
        return (word,)

    def weighing(self):
        """The sum that the next words tell."""
        first = self.done
        weights = [self.figure(0, MOST_MODULUS - 1) for _ in range(self.letters)]
        self.take(("mod",))
        modulus = self.figure(2, MOST_MODULUS)
        for place, weight in enumerate(weights):
            if weight >= modulus:
                raise BadLine(1, first + place + 1)
        self.take(("is",))
        return "sum", tuple(weights), modulus, self.figure(0, modulus - 1)

    def figure(self, low, high):
        """The next word as a figure from low to high."""
        return FIGURES.index(self.take(FIGURES[low:high + 1]))

    def letters_together(self):
        """The next word as letters side by side."""
        names = LETTERS[:self.letters]
        word = self.words[self.done] if self.done < len(self.words) else ""
        if not 1 <= len(word) <= MOST_WORD or not all([sign in names for sign in word]):
            raise BadLine(1, self.done + 1)
        self.done += 1
        return tuple([LETTERS.index(sign) for sign in word])

    def take(self, allowed):
        """The next word, which must be one of those allowed."""
        # One that is lacking has the number of the words and 1, too.
        if self.done == len(self.words) or self.words[self.done] not in allowed:
            raise BadLine(1, self.done + 1)
        self.done += 1
        return self.words[self.done - 1]

    def end(self):
        """See that no word is left over."""
        if self.done < len(self.words):
            raise BadLine(1, self.done + 1)

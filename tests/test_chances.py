import copy
import itertools
import math
import random
import unittest

from helpers import (
    DEEP, DEEP_LIST, EVEN, LAST, NEVER, ONLY, SOME, THREE, WRONG_QUESTIONS, all_questions, any_commuting, any_question,
    any_questions, bad, check_arguments, error_of, ring, slow_answer, slow_can_keep, walked,
)
from toldwhat import chances
from toldwhat.chances import arrangements, is_sure, possible, sure_counts
from toldwhat.keepers import can_keep

# Values that are no counts of two letters.
NOT_COUNTS = NEVER + (
    (), (1,), (1, 1, 1), (1, 21), (21, 1), (1, -1), (-1, 0), (True, 1), (1, False), (1, None), (None, 1), ("1", 1), (1, "a"),
    [1, 1], {1: 1, 2: 2}, {0: 0, 1: 0}, "11", (1, (1,)), ((1, 1),), (1, [1]), (10 ** 5000, 1), (1, -10 ** 5000), DEEP, (DEEP, 1),
    (1, DEEP), (1, DEEP_LIST), (1, 100), (1, 61),
)
WRONG_COUNTS = tuple((value, bad("BadNumber")) for value in NOT_COUNTS)

NOT_MOST = (
    None, True, False, -1, 6, 7, 20, 10 ** 5000, -10 ** 5000, "", "1", (), (1,), [], [1], {}, {1: 1}, DEEP, DEEP_LIST, (1, 1),
)
WRONG_MOST = tuple((value, bad("BadNumber")) for value in NOT_MOST)


def texts_of(counts):
    """All texts with such counts."""
    letters = [letter for letter, many in enumerate(counts) for _ in range(many)]
    return set(itertools.permutations(letters))


def slow_arrangements(question, counts):
    """How many texts with such counts have each answer, text by text."""
    found = {}
    for text in texts_of(counts):
        told = slow_answer(question, text)
        found[told] = found.get(told, 0) + 1
    return tuple(sorted(found.items()))


def rows_of(letters, most):
    """All counts, each at most so many, ascending."""
    return itertools.product(range(most + 1), repeat=letters)


def multinomial(counts):
    """How many texts with such counts there are."""
    return math.factorial(sum(counts)) // math.prod(math.factorial(many) for many in counts)


class TestInterface(unittest.TestCase):
    def test_example(self):
        last = (2, ((1, 0), (1, 0)), (0, 1))
        found = [arrangements(last, (2, 1)), sure_counts(last, 1)]
        self.assertEqual(found, [((0, 1), (1, 2)), ((0, 0), (0, 1), (1, 0))])

    def test_defined_here(self):
        for name in ("arrangements", "possible", "is_sure", "sure_counts"):
            self.assertEqual(getattr(chances, name).__module__, "toldwhat.chances")

    def test_names_of_arguments(self):
        self.assertEqual(arrangements(question=EVEN, counts=(1, 1)), ((0, 2),))
        self.assertEqual(possible(question=EVEN, counts=(1, 1)), (0,))
        self.assertIs(is_sure(question=EVEN, counts=(1, 1)), True)
        self.assertEqual(sure_counts(question=EVEN, most=0), ((0, 0),))


class TestArrangements(unittest.TestCase):
    def check(self, question, counts):
        expected = slow_arrangements(question, counts)
        found = arrangements(question, counts)
        self.assertEqual(found, expected, (question, counts))
        self.assertEqual(possible(question, counts), tuple(told for told, _ in expected))
        self.assertIs(is_sure(question, counts), len(expected) == 1)
        self.assertTrue(all(type(row) is tuple and [type(part) for part in row] == [int, int] for row in found))
        self.assertEqual(sum(many for _, many in found), multinomial(counts))

    def test_all_small(self):
        for letters, most, longest in ((1, 3, 5), (2, 2, 3)):
            for many in range(1, most + 1):
                for question in itertools.islice(all_questions(letters, many), 0, None, 3):
                    for counts in rows_of(letters, longest):
                        self.check(question, counts)

    def test_any(self):
        chance = random.Random(1)
        for question in any_questions(2, 40):
            for _ in range(6):
                counts = tuple(chance.randint(0, 3 if question[0] == 2 else 2) for _ in range(question[0]))
                self.check(question, counts)
        for question in (EVEN, SOME, LAST, THREE, ONLY, any_question(chance, 2, 40, 4), any_question(chance, 3, 40, 4)):
            for counts in rows_of(question[0], 2):
                self.check(question, counts)
        self.check(any_question(chance, 2, 9, 4), (4, 4))
        self.check(any_question(chance, 1, 9, 4), (8,))

    def test_written_out(self):
        self.assertEqual(arrangements(LAST, (0, 0)), ((0, 1),))
        self.assertEqual(arrangements(LAST, (3, 0)), ((0, 1),))
        self.assertEqual(arrangements(LAST, (0, 3)), ((1, 1),))
        self.assertEqual(arrangements(LAST, (3, 1)), ((0, 3), (1, 1)))
        self.assertEqual(arrangements(SOME, (2, 2)), ((1, 6),))
        self.assertEqual(arrangements((2, ((0, 1), (0, 2), (2, 2)), (3, 1, 0)), (2, 2)), ((0, 3), (1, 2), (3, 1)))
        self.assertEqual([possible(LAST, (3, 1)), possible(LAST, (3, 0))], [(0, 1), (0,)])
        self.assertEqual([is_sure(LAST, (3, 1)), is_sure(LAST, (3, 0)), is_sure(LAST, (0, 0))], [False, True, True])

    def test_twenty_of_each(self):
        chance = random.Random(3)
        counts = (20, 20, 20)
        every = multinomial(counts)
        self.assertGreater(every, 10 ** 26)
        # By the last letter: a third of them each.
        last = (3, ((0, 1, 2),) * 3, (0, 1, 2))
        self.assertEqual(arrangements(last, counts), ((0, every // 3), (1, every // 3), (2, every // 3)))
        # With two letters side by side, without which the 20 stand in some of 41 places.
        pairs = (3, ((0, 0, 1), (0, 0, 2), (2, 2, 2)), (0, 0, 1))
        apart = math.comb(41, 20) * math.comb(40, 20)
        self.assertEqual(arrangements(pairs, counts), ((0, apart), (1, every - apart)))
        for question in (any_question(chance, 3, 40, 4), any_question(chance, 3, 12, 4), THREE):
            found = arrangements(question, counts)
            self.assertEqual(sum(many for _, many in found), every)
            self.assertEqual(possible(question, counts), tuple(told for told, _ in found))
            self.assertEqual([told for told, _ in found], sorted({told for told, _ in found}))
        self.assertIs(is_sure(THREE, counts), True)
        self.assertIs(is_sure(pairs, counts), False)
        self.assertEqual(arrangements(ring(40), (20,)), ((0, 1),))
        self.assertEqual(arrangements(ring(20), (20,)), ((1, 1),))

    def test_by_the_map_of_counts(self):
        # Longer ones by steps: the last letter of a text is one of those that there are.
        def by_states(question, counts):
            if not any(counts):
                return {0: 1}
            found = {}
            for letter, many in enumerate(counts):
                if many:
                    for state, ways in by_states(question, counts[:letter] + (many - 1,) + counts[letter + 1:]).items():
                        reached = walked(question, (letter,), state)
                        found[reached] = found.get(reached, 0) + ways
            return found

        chance = random.Random(4)
        for counts in ((5, 4), (3, 3, 3), (6, 2), (2, 1, 4)):
            question = any_question(chance, len(counts), 7, 4)
            told = {}
            for state, ways in by_states(question, counts).items():
                told[question[2][state]] = told.get(question[2][state], 0) + ways
            self.assertEqual(arrangements(question, counts), tuple(sorted(told.items())))


class TestSureCounts(unittest.TestCase):
    def check(self, question, most):
        expected = tuple(counts for counts in rows_of(question[0], most) if is_sure(question, counts))
        found = sure_counts(question, most)
        self.assertEqual(found, expected, (question, most))
        self.assertEqual(list(found), sorted(found))
        self.assertIn((0,) * question[0], found)
        self.assertTrue(all(type(counts) is tuple and all(type(many) is int for many in counts) for counts in found))

    def test_any(self):
        for question in any_questions(5, 30):
            for most in range(4 if question[0] < 3 else 3):
                self.check(question, most)
        for question in (EVEN, SOME, LAST, THREE, ONLY, ring(40)):
            for most in range(6):
                self.check(question, most)

    def test_by_all_texts(self):
        for question in itertools.islice(all_questions(2, 2), 0, None, 5):
            expected = tuple(counts for counts in rows_of(2, 3) if len(slow_arrangements(question, counts)) == 1)
            self.assertEqual(sure_counts(question, 3), expected)

    def test_that_can_be_kept(self):
        """A question can be kept in "in" exactly if all counts are sure."""
        chance = random.Random(6)
        tried = list(any_questions(7, 60)) + [any_commuting(chance, chance.randint(1, 3), 10) for _ in range(30)]
        kept = 0
        for question in itertools.chain(tried, (EVEN, SOME, LAST, THREE, ONLY)):
            most = 4 if question[0] < 3 else 3
            sure = len(sure_counts(question, most)) == (most + 1) ** question[0]
            self.assertIs(can_keep("in", question), sure, question)
            self.assertIs(slow_can_keep("in", question), sure, question)
            kept += sure
        self.assertTrue(20 < kept < 90, kept)

    def test_written_out(self):
        self.assertEqual(sure_counts(LAST, 0), ((0, 0),))
        self.assertEqual(sure_counts(LAST, 2), ((0, 0), (0, 1), (0, 2), (1, 0), (2, 0)))
        self.assertEqual(sure_counts(SOME, 1), ((0, 0), (0, 1), (1, 0), (1, 1)))
        self.assertEqual(len(sure_counts(THREE, 5)), 216)
        self.assertEqual(sure_counts(ring(3), 5), tuple((many,) for many in range(6)))


class TestWrong(unittest.TestCase):
    def test_arguments(self):
        questions = [(value, bad("BadQuestion", part=part)) for value, part in WRONG_QUESTIONS]
        for call in (arrangements, possible, is_sure):
            check_arguments(self, call, [EVEN, (1, 1)], [questions, WRONG_COUNTS])
        check_arguments(self, sure_counts, [EVEN, 1], [questions, WRONG_MOST])

    def test_numbers_there_are(self):
        for many in range(-2, 25):
            expected = None if 0 <= many <= 20 else bad("BadNumber")
            for call in (arrangements, possible, is_sure):
                self.assertEqual(error_of(call, ring(3), (many,)), expected)
                self.assertEqual(error_of(call, EVEN, (0, many)), expected)
            self.assertEqual(error_of(sure_counts, ring(3), many), None if 0 <= many <= 5 else bad("BadNumber"))

    def test_counts_of_other_letters(self):
        for question, call in itertools.product((ring(2), EVEN, THREE), (arrangements, possible, is_sure)):
            for many in range(5):
                expected = None if many == question[0] else bad("BadNumber")
                self.assertEqual(error_of(call, question, (0,) * many), expected)


class TestUnchanged(unittest.TestCase):
    def test_arguments(self):
        chance = random.Random(8)
        for _ in range(10):
            question, counts = any_question(chance, 2, 5, 4), (chance.randint(0, 5), chance.randint(0, 5))
            kept = copy.deepcopy((question, counts))
            calls = [
                lambda: arrangements(question, counts), lambda: possible(question, counts),
                lambda: is_sure(question, counts), lambda: sure_counts(question, 2),
            ]
            found = [call() for call in calls]
            self.assertEqual([call() for call in reversed(calls)], found[::-1])
            self.assertEqual((question, counts), kept)
            self.assertEqual([type(value) for value in found], [tuple, tuple, bool, tuple])

    def test_wrong_arguments(self):
        for value in ([1, 1], [[1]], {0: [1]}, ([1], 1), [], {}):
            before = copy.deepcopy(value)
            for call in (arrangements, possible, is_sure, sure_counts):
                self.assertIsNotNone(error_of(call, EVEN, value))
                self.assertIsNotNone(error_of(call, value, value))
            self.assertEqual(value, before)


if __name__ == "__main__":
    unittest.main()

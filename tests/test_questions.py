import copy
import itertools
import random
import unittest

from helpers import (
    DEEP, DEEP_LIST, EVEN, LAST, NEVER, NOT_ANSWERS, NOT_LETTERS, NOT_QUESTIONS, NOT_STEPS, ONLY, SOME, THREE,
    all_questions, any_question, any_questions, error_of, ring, short_texts, slow_answer, slow_least, slow_map, slow_maps,
    walked,
)
from toldwhat import questions
from toldwhat.questions import answer, are_alike, least, map_of, maps, parting_text, state_of

OF_ONE = (least, maps)
WITH_TEXT = (state_of, answer, map_of)
OF_TWO = (are_alike, parting_text)

# Just 2000 unlike maps, and just 2001.
MAPS_2000 = (2, ((1, 2), (3, 4), (0, 0), (5, 6), (4, 6), (0, 6), (0, 1)), (0, 0, 1, 1, 1, 1, 1))
MAPS_2001 = (2, ((1, 2), (3, 4), (5, 0), (6, 4), (6, 5), (6, 1), (2, 7), (5, 5)), (0, 1, 0, 0, 0, 0, 1, 1))

NOT_TEXTS = NEVER + (
    (0,) * 61, (0,) * 1000, (2,), (0, 2), (0, 1, -1), (10 ** 5000,), (True,), (0, False), (None,), ("0",), ("a",), "01",
    [0, 1], ((0,),), ((),), (0, [1]), {0: 1, 1: 0}, DEEP, (DEEP,), (0, DEEP_LIST),
)


class TestInterface(unittest.TestCase):
    def test_examples(self):
        even = (2, ((1, 0), (0, 1)), (1, 0))
        some = (2, ((1, 0), (1, 1)), (0, 1))
        told = [
            answer(even, (0, 1, 0)), answer(some, (1, 1)), state_of(some, (1, 0)), parting_text(even, some),
            are_alike(even, even), map_of(some, (0,)), maps(even),
        ]
        self.assertEqual(told, [1, 0, 1, (), True, (1, 1), ((0, 1), (1, 0))])
        self.assertIs(told[4], True)
        self.assertEqual(least((1, ((1,), (2,), (0,)), (1, 1, 1))), (1, ((0,),), (1,)))
        self.assertEqual(error_of(least, (1, ((1,),), (0,))), ("BadQuestion", {"part": "steps"}))

    def test_defined_here(self):
        for name in ("state_of", "answer", "least", "are_alike", "parting_text", "maps", "map_of"):
            self.assertEqual(getattr(questions, name).__module__, "toldwhat.questions")


class TestAnswers(unittest.TestCase):
    def check_answers(self, question, longest):
        for text in short_texts(question[0], longest):
            self.assertEqual(state_of(question, text), walked(question, text), (question, text))
            self.assertEqual(answer(question, text), slow_answer(question, text), (question, text))

    def test_all_of_one_letter(self):
        for many in (1, 2, 3):
            for question in all_questions(1, many):
                self.check_answers(question, 5)

    def test_all_of_two_letters(self):
        for many in (1, 2):
            for question in all_questions(2, many):
                self.check_answers(question, 4)

    def test_all_of_three_letters(self):
        for many in (1, 2):
            for question in all_questions(3, many):
                self.check_answers(question, 3)

    def test_any(self):
        for question in any_questions(1, 60):
            self.check_answers(question, 4)

    def test_by_meaning(self):
        for text in short_texts(2, 7):
            self.assertEqual(answer(EVEN, text), 1 - text.count(0) % 2)
            self.assertEqual(answer(SOME, text), int(0 in text))
            self.assertEqual(answer(LAST, text), int(text[-1:] == (1,)))
        for text in short_texts(3, 5):
            self.assertEqual(answer(THREE, text), sum(text) % 3)

    def test_state_is_of_the_question_itself(self):
        doubled = (1, ((2,), (0,), (1,)), (0, 0, 0))
        self.assertEqual([state_of(doubled, (0,) * many) for many in range(4)], [0, 2, 1, 0])

    def test_all_answers(self):
        for told in range(4):
            self.assertEqual(answer((1, ((0,),), (told,)), (0, 0)), told)

    def test_lengths(self):
        many = ring(40)
        self.assertEqual(state_of(many, ()), 0)
        self.assertEqual(state_of(many, (0,) * 39), 39)
        self.assertEqual(state_of(many, (0,) * 60), 20)
        self.assertEqual(answer(ring(30), (0,) * 60), 1)
        self.assertEqual(answer(ring(30), ()), 1)
        self.assertEqual(map_of(many, (0,) * 60), tuple((state + 20) % 40 for state in range(40)))
        self.assertEqual(map_of(many, ()), tuple(range(40)))
        for call in WITH_TEXT:
            self.assertEqual(error_of(call, many, (0,) * 61), ("BadText", {}))


class TestLeast(unittest.TestCase):
    def test_all_small(self):
        for letters, most in ((1, 4), (2, 2), (3, 2)):
            for many in range(1, most + 1):
                for question in all_questions(letters, many):
                    self.assertEqual(least(question), slow_least(question), question)

    def test_any(self):
        for question in any_questions(2, 150):
            self.assertEqual(least(question), slow_least(question), question)

    def test_not_come_to(self):
        question = (2, ((3, 0), (2, 1), (1, 0), (0, 3)), (1, 2, 3, 0))
        self.assertEqual(least(question), EVEN)

    def test_alike(self):
        question = (2, ((1, 2), (3, 1), (1, 0), (1, 3)), (0, 1, 0, 1))
        self.assertEqual(least(question), SOME)

    def test_answers_alike_are_not_enough(self):
        question = (1, ((1,), (2,), (3,), (3,)), (0, 0, 0, 1))
        self.assertEqual(least(question), question)

    def test_alike_only_among_those_come_to(self):
        question = (1, ((0,), (2,), (1,)), (0, 0, 1))
        self.assertEqual(least(question), (1, ((0,),), (0,)))

    def test_one_state(self):
        for letters in (1, 2, 3):
            for told in range(4):
                question = (letters, ((0,) * letters,), (told,))
                self.assertEqual(least(question), question)

    def test_forty_states(self):
        self.assertEqual(least(ring(40)), ring(40))
        self.assertEqual(least(ring(40, (1, 0) * 20)), ring(2))
        self.assertEqual(least(ring(40, (0,) * 40)), (1, ((0,),), (0,)))
        turned = (1, tuple(((state - 1) % 40,) for state in range(40)), (1,) + (0,) * 39)
        self.assertEqual(least(turned), ring(40))
        chain = (1, tuple((min(state + 1, 39),) for state in range(40)), (0,) * 39 + (1,))
        self.assertEqual(least(chain), chain)

    def test_numbering(self):
        question = (2, ((3, 1), (1, 1), (0, 3), (2, 3)), (0, 1, 2, 3))
        # 0 leads to 3 and then 1, 3 leads to 2.
        self.assertEqual(least(question), (2, ((1, 2), (3, 1), (2, 2), (0, 1)), (0, 3, 1, 2)))

    def test_numbering_letter_by_letter(self):
        question = (3, ((6, 5, 4), (0, 0, 0), (1, 1, 1), (2, 2, 2), (3, 3, 3), (4, 4, 4), (5, 5, 5)), (0, 1, 2, 3, 0, 1, 2))
        steps = ((1, 2, 3), (2, 2, 2), (3, 3, 3), (4, 4, 4), (5, 5, 5), (6, 6, 6), (0, 0, 0))
        self.assertEqual(least(question), (3, steps, (0, 2, 1, 0, 3, 2, 1)))

    def test_however_numbered(self):
        chance = random.Random(3)
        for _ in range(100):
            question = any_question(chance, 2, 12, 2)
            places = list(range(1, 12))
            chance.shuffle(places)
            places = [0] + places
            steps, told = [None] * 12, [None] * 12
            for state in range(12):
                steps[places[state]] = tuple(places[after] for after in question[1][state])
                told[places[state]] = question[2][state]
            self.assertEqual(least((2, tuple(steps), tuple(told))), least(question))

    def test_again(self):
        chance = random.Random(4)
        for _ in range(100):
            small = least(any_question(chance, chance.randint(1, 3), chance.randint(1, 40), chance.randint(1, 4)))
            self.assertEqual(least(small), small)

    def test_same_answers(self):
        chance = random.Random(5)
        for _ in range(40):
            question = any_question(chance, chance.randint(1, 3), chance.randint(10, 40))
            for _ in range(20):
                text = tuple(chance.randrange(question[0]) for _ in range(chance.randint(0, 60)))
                self.assertEqual(answer(least(question), text), answer(question, text))


class TestAlike(unittest.TestCase):
    def check_pair(self, one, other):
        longest = len(one[1]) + len(other[1]) - 1
        parting = [text for text in short_texts(one[0], longest) if slow_answer(one, text) != slow_answer(other, text)]
        first = parting[0] if parting else None
        self.assertEqual(parting_text(one, other), first, (one, other))
        self.assertIs(are_alike(one, other), first is None, (one, other))

    def test_all_of_one_letter(self):
        rows = list(all_questions(1, 1)) + list(all_questions(1, 2)) + list(all_questions(1, 3))[::7]
        for one, other in itertools.product(rows, rows):
            self.check_pair(one, other)

    def test_all_of_two_letters(self):
        rows = list(all_questions(2, 2))
        for one, other in itertools.product(rows, rows):
            self.check_pair(one, other)

    def test_any(self):
        chance = random.Random(6)
        for _ in range(300):
            letters = chance.randint(1, 3)
            pair = [any_question(chance, letters, chance.randint(1, 4 if letters < 3 else 3)) for _ in range(2)]
            self.check_pair(*pair)

    def test_least_of_the_shortest(self):
        zero = (3, ((0, 0, 0),), (0,))
        ends = (3, ((1, 1, 1), (1, 2, 2), (2, 2, 2)), (0, 0, 1))
        self.assertEqual(parting_text(zero, ends), (0, 1))
        late = (2, ((1, 2), (1, 1), (2, 3), (3, 3)), (0, 0, 0, 1))
        self.assertEqual(parting_text((2, ((0, 0),), (0,)), late), (1, 1))

    def test_void_text(self):
        self.assertEqual(parting_text((1, ((0,),), (3,)), (1, ((0,),), (2,))), ())

    def test_alike(self):
        doubled = (2, ((2, 1), (3, 0), (0, 3), (1, 2)), (1, 1, 0, 0))
        self.assertIs(are_alike(EVEN, doubled), True)
        self.assertIsNone(parting_text(doubled, EVEN))
        self.assertIs(are_alike(ring(40), ring(40)), True)
        self.assertIs(are_alike(ring(40), ring(39)), False)

    def test_longer_than_an_argument(self):
        # Both rows have the periods 39 and 40 up to the 77th answer, and part there.
        marks = list(range(77))
        for _ in range(77):
            for low, step in itertools.product(range(77), (39, 40)):
                if low + step < 77:
                    marks[low] = marks[low + step] = min(marks[low], marks[low + step])
        told = tuple(int(mark == marks[0]) for mark in marks)
        self.assertEqual(parting_text(ring(39, told[:39]), ring(40, told[:40])), (0,) * 77)
        self.assertIs(are_alike(ring(39, told[:39]), ring(40, told[:40])), False)


class TestMaps(unittest.TestCase):
    def check_maps(self, question):
        found = maps(question)
        self.assertEqual(found, slow_maps(question), question)
        self.assertEqual(list(found), sorted(set(found)))
        small = slow_least(question)
        for text in short_texts(question[0], 3):
            self.assertEqual(map_of(question, text), slow_map(small, text), (question, text))
            self.assertIn(map_of(question, text), found)

    def test_all_small(self):
        for letters, many in ((1, 1), (1, 2), (1, 3), (2, 1), (2, 2), (3, 1)):
            for question in all_questions(letters, many):
                self.check_maps(question)

    def test_any(self):
        chance = random.Random(7)
        for _ in range(60):
            self.check_maps(any_question(chance, chance.randint(1, 2), chance.randint(2, 4)))
        for _ in range(20):
            self.check_maps(any_question(chance, 3, 3, 3))

    def test_of_the_least_question(self):
        question = (2, ((2, 0), (1, 1), (2, 2)), (0, 3, 1))
        self.assertEqual(map_of(question, ()), (0, 1))
        self.assertEqual(map_of(question, (0,)), (1, 1))
        self.assertEqual(maps(question), ((0, 1), (1, 1)))

    def test_void_text_alone(self):
        self.assertEqual(maps(ONLY), ((0,),))
        # No other text has the map of the void text here.
        self.assertEqual(maps((1, ((1,), (1,)), (0, 1))), ((0, 1), (1, 1)))

    def test_forty_states(self):
        turns = tuple(tuple((state + step) % 40 for state in range(40)) for step in range(40))
        self.assertEqual(maps(ring(40)), turns)

    def test_just_two_thousand(self):
        found = maps(MAPS_2000)
        self.assertEqual(len(found), 2000)
        self.assertEqual(list(found), sorted(set(found)))
        letters = [map_of(MAPS_2000, (letter,)) for letter in range(2)]
        known = set(found)
        for row, turn in itertools.product(found, letters):
            self.assertIn(tuple(turn[state] for state in row), known)

    def test_more_than_two_thousand(self):
        self.assertEqual(error_of(maps, MAPS_2001), ("TooMany", {"most": 2000}))
        # All orders of seven states: 5040 maps.
        swap = (1, 0, 2, 3, 4, 5, 6)
        orders = (2, tuple((swap[state], (state + 1) % 7) for state in range(7)), (1, 0, 0, 0, 0, 0, 0))
        self.assertEqual(error_of(maps, orders), ("TooMany", {"most": 2000}))
        swap = tuple([1, 0] + list(range(2, 40)))
        orders = (2, tuple((swap[state], (state + 1) % 40) for state in range(40)), (1,) + (0,) * 39)
        self.assertEqual(error_of(maps, orders), ("TooMany", {"most": 2000}))
        # A map of a text is had however many there are.
        self.assertEqual(map_of(orders, (0,)), tuple([1, 0] + list(range(2, 40))))

    def test_orders_of_six(self):
        swap = (1, 0, 2, 3, 4, 5)
        orders = (2, tuple((swap[state], (state + 1) % 6) for state in range(6)), (1, 0, 0, 0, 0, 0))
        self.assertEqual(maps(orders), tuple(itertools.permutations(range(6))))


class TestWrong(unittest.TestCase):
    def check_question(self, question, part):
        wrong = ("BadQuestion", {"part": part})
        for call in OF_ONE:
            self.assertEqual(error_of(call, question), wrong, call)
        for call in WITH_TEXT:
            self.assertEqual(error_of(call, question, ()), wrong, call)
            self.assertEqual(error_of(call, question, (7,)), wrong, call)
            self.assertEqual(error_of(call, question, None), wrong, call)
        for call in OF_TWO:
            self.assertEqual(error_of(call, question, EVEN), wrong, call)
            self.assertEqual(error_of(call, EVEN, question), wrong, call)
            self.assertEqual(error_of(call, ONLY, question), wrong, call)
            self.assertEqual(error_of(call, question, None), wrong, call)

    def test_question(self):
        for value in NOT_QUESTIONS:
            self.check_question(value, "question")

    def test_letters(self):
        for value in NOT_LETTERS:
            self.check_question((value, EVEN[1], EVEN[2]), "letters")

    def test_steps(self):
        for value in NOT_STEPS:
            self.check_question((2, value, EVEN[2]), "steps")
        self.check_question((1, ((0,),) * 41, (0,) * 41), "steps")
        self.check_question((3, EVEN[1], EVEN[2]), "steps")

    def test_answers(self):
        for value in NOT_ANSWERS:
            self.check_question((2, EVEN[1], value), "answers")

    def test_first_part_comes_first(self):
        self.check_question((0, None, None, None), "question")
        self.check_question((0, None, None), "letters")
        self.check_question((True, ((0,),), (0,)), "letters")
        self.check_question((4, (), ()), "letters")
        self.check_question((1, (), ()), "steps")
        self.check_question((2, ((1, 0), (0, 2)), (1, 4)), "steps")
        self.check_question((2, ((1, 0), (0, 1)), (1, 4)), "answers")

    def test_limits_that_are_let(self):
        self.assertEqual(least((3, ((0, 0, 0),), (3,))), (3, ((0, 0, 0),), (3,)))
        self.assertEqual(len(least(ring(40))[1]), 40)

    def test_text(self):
        for value in NOT_TEXTS:
            for call in WITH_TEXT:
                self.assertEqual(error_of(call, EVEN, value), ("BadText", {}), call)

    def test_text_by_the_letters_of_the_question(self):
        for call in WITH_TEXT:
            self.assertIsNone(error_of(call, THREE, (2,)))
            self.assertEqual(error_of(call, THREE, (3,)), ("BadText", {}))
            self.assertEqual(error_of(call, ONLY, (1,)), ("BadText", {}))

    def test_not_alike(self):
        for call in OF_TWO:
            for one, other in itertools.permutations((ONLY, EVEN, THREE), 2):
                self.assertEqual(error_of(call, one, other), ("NotAlike", {}), call)

    def test_leftmost_first(self):
        for call in OF_TWO:
            self.assertEqual(error_of(call, (2, (), ()), (9, (), ())), ("BadQuestion", {"part": "steps"}))
            self.assertEqual(error_of(call, (9, (), ()), (2, (), ())), ("BadQuestion", {"part": "letters"}))
            self.assertEqual(error_of(call, ONLY, (2, EVEN[1], ())), ("BadQuestion", {"part": "answers"}))


class TestUnchanged(unittest.TestCase):
    def test_wrong_arguments(self):
        values = (
            [2, [[1, 0], [0, 1]], [1, 0]], (2, [[1, 0], [0, 1]], (1, 0)), (2, ([1, 0], [0, 1]), [1, 0]),
            (2, EVEN[1], [1, 0]), (2, EVEN[1], {0: 1, 1: 0}), {2: [0]}, [], [[]],
        )
        for value in values:
            before = copy.deepcopy(value)
            for call in OF_ONE:
                self.assertIsNotNone(error_of(call, value))
            for call in OF_TWO:
                self.assertIsNotNone(error_of(call, value, value))
                self.assertIsNotNone(error_of(call, EVEN, value))
            for call in WITH_TEXT:
                self.assertIsNotNone(error_of(call, value, value))
                self.assertIsNotNone(error_of(call, EVEN, value))
            self.assertEqual(value, before)

    def test_again_the_same(self):
        for question in any_questions(8, 30):
            kept = copy.deepcopy(question)
            first = [least(question), maps(question), map_of(question, (0,)), parting_text(question, least(question))]
            again = [least(question), maps(question), map_of(question, (0,)), parting_text(question, least(question))]
            self.assertEqual(first, again)
            self.assertIsNone(first[3])
            self.assertEqual(question, kept)

    def test_kinds(self):
        for question in any_questions(9, 30):
            small = least(question)
            self.assertIs(type(small), tuple)
            self.assertEqual([type(part) for part in small], [int, tuple, tuple])
            for row in small[1] + maps(question) + (map_of(question, (0,)), parting_text(question, question) or ()):
                self.assertIs(type(row), tuple)
                for number in row:
                    self.assertIs(type(number), int)


if __name__ == "__main__":
    unittest.main()

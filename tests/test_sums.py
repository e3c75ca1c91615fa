import copy
import itertools
import math
import random
import unittest

from helpers import (
    DEEP, DEEP_LIST, EVEN, LAST, NEVER, ONLY, SOME, THREE, WORLDS, WRONG_QUESTIONS, WRONG_WORLDS, all_questions,
    any_question, bad, check_arguments, error_of, group, ring, short_texts, shown, slow_answer, slow_can_keep, slow_least,
)
from toldwhat import sums as file_of_sums
from toldwhat.keepers import can_keep
from toldwhat.questions import least
from toldwhat.sums import both, either_kept, shows_sums, sums

# Groups of all kinds: moduli (any, not in plain form), weights, and the moduli in plain form of what texts come to.
GROUPS = (
    ((2,), ((1,),), (2,)), ((2,), ((1,), (0,)), (2,)), ((2,), ((1,), (1,), (1,)), (2,)), ((3,), ((1,), (2,)), (3,)),
    ((4,), ((1,),), (4,)), ((4,), ((2,), (1,)), (4,)), ((2, 2), ((1, 0), (0, 1)), (2, 2)), ((6,), ((2,), (3,)), (6,)),
    ((2, 3), ((1, 0), (0, 1)), (6,)), ((2, 4), ((1, 1), (0, 1)), (2, 4)), ((4, 2), ((1, 0), (2, 1)), (2, 4)),
    ((4, 6), ((1, 0), (0, 1)), (2, 12)), ((6, 6), ((1, 0), (0, 1)), (6, 6)), ((6, 6), ((1, 5), (3, 2)), (6, 6)),
    ((4, 4), ((1, 2), (2, 1)), (4, 4)), ((3, 9), ((1, 1), (0, 2)), (3, 9)), ((6, 4), ((1, 1), (3, 3)), (12,)),
    ((2, 2, 2), ((1, 0, 0), (0, 1, 0), (0, 0, 1)), (2, 2, 2)), ((2, 2, 4), ((1, 0, 0), (1, 1, 2), (0, 1, 1)), (2, 2, 4)),
    ((3, 3, 3), ((1, 2, 0), (0, 1, 1), (1, 0, 2)), (3, 3, 3)), ((2, 4, 4), ((1, 1, 0), (0, 2, 1), (0, 1, 0)), (2, 4, 4)),
    ((2, 3, 5), ((1, 0, 0), (0, 1, 0), (0, 0, 1)), (30,)), ((2, 3, 6), ((1, 0, 0), (0, 1, 0), (0, 0, 1)), (6, 6)),
    ((40,), ((1,), (7,), (12,)), (40,)), ((40,), ((8,), (5,)), (40,)), ((2, 20), ((1, 0), (0, 1), (1, 1)), (2, 20)),
    ((2, 2, 10), ((1, 0, 5), (0, 1, 5), (1, 1, 1)), (2, 2, 10)), ((5, 8), ((1, 0), (0, 1), (2, 3)), (40,)),
    ((20,), ((4,), (7,)), (20,)), ((37,), ((5,), (0,), (36,)), (37,)), ((6, 6), ((1, 0), (0, 1), (5, 5)), (6, 6)), ((3, 12), ((1, 4), (0, 1)), (3, 12)),
)

# Values that are no triple for EVEN, the only one for which is this.
GOOD = ((2,), ((1,), (0,)), {(0,): 1, (1,): 0})

NOT_MODULI = NEVER + (
    (), (1,), (0,), (-2,), (3,), (4,), (2, 2), (1, 2), (2, 1), (True,), (None,), ("2",), ((2,),), [2], {2: 2}, (10 ** 5000,),
    DEEP, (DEEP,), (DEEP_LIST,), (2,) * 1000,
)
NOT_WEIGHTS = NEVER + (
    (), ((1,),), ((1,), (0,), (0,)), ((2,), (0,)), ((1,), (-1,)), ((1,), (2,)), ((0,), (0,)), ((1,), (1,)), ((0,), (1,)),
    ((True,), (0,)), ((1,), (False,)), ((1,), (None,)), ((1,), ()), ((1,), (0, 0)), ((1,), 0), (1, 0), [(1,), (0,)],
    ([1], [0]), ((1,), [0]), ((1,), "0"), ((1,), {0: 0}), ((10 ** 5000,), (0,)), DEEP, (DEEP, DEEP), ((1,), (DEEP,)),
    (DEEP_LIST, (0,)), {0: (1,), 1: (0,)},
)
NOT_DICTS = NEVER + (
    {(0,): 1}, {(1,): 0}, {(0,): 0, (1,): 1}, {(0,): 1, (1,): 0, (2,): 0}, {(0,): 1, (2,): 0}, {0: 1, 1: 0},
    {(0,): 1, (1,): 4}, {(0,): 1, (1,): -1}, {(0,): True, (1,): 0}, {(0,): 1, (1,): False}, {(False,): 1, (1,): 0},
    {(0,): 1, (True,): 0}, {(0,): 1, (1,): None}, {(0,): 1, (1,): "0"}, {(0,): 1, (1,): [0]}, {(0,): 1, (1,): DEEP},
    {(0,): 1, (1, 0): 0}, {(): 1}, {(0,): 1, None: 0}, {(0,): 1, "1": 0}, {(0,): 1, ((1,),): 0}, {(0,): 1, (-1,): 0},
    {(0,): 1, (1,): 1}, {(0,): 1, (1,): 2}, ((0, 1), (1, 0)), [((0,), 1), ((1,), 0)], {(0,): 1, (10 ** 5000,): 0},
    {at: 0 for at in range(1000)},
)


def is_number(value, low, high):
    return type(value) is int and low <= value <= high


def slow_shows(question, value):
    """Whether a value is a triple of sums, by the document's words."""
    small = slow_least(question) if len(question[1]) < 5 else least(question)
    if type(value) is not tuple or len(value) != 3 or type(value[0]) is not tuple or type(value[1]) is not tuple:
        return False
    moduli, weights, answers = value
    if not all(is_number(modulus, 2, 40) for modulus in moduli):
        return False
    if any(high % low for low, high in zip(moduli, moduli[1:])) or len(moduli) > 6:
        return False
    every = set(itertools.product(*[range(modulus) for modulus in moduli]))
    if len(every) != len(small[1]) or len(weights) != small[0] or type(answers) is not dict:
        return False
    for weight in weights:
        if type(weight) is not tuple or len(weight) != len(moduli):
            return False
        if not all(is_number(part, 0, modulus - 1) for part, modulus in zip(weight, moduli)):
            return False
    for total, told in answers.items():
        if type(total) is not tuple or any(type(part) is not int for part in total) or not is_number(told, 0, 3):
            return False
    if set(answers) != every:
        return False
    # Texts come to all pairs of a state and a sum by as many letters as there are pairs, and less.
    level, known = {(0, (0,) * len(moduli))}, set()
    while level:
        if any(answers[total] != small[2][state] for state, total in level):
            return False
        known |= level
        level = {
            (small[1][state][letter], tuple((part + more) % modulus for part, more, modulus in zip(total, weight, moduli)))
            for state, total in level for letter, weight in enumerate(weights)
        } - known
    return True


def sum_of(triple, text):
    """The sum of the weights of a text's letters."""
    moduli, weights, _ = triple
    return tuple(sum(weights[letter][at] for letter in text) % modulus for at, modulus in enumerate(moduli))


def any_told(chance):
    """Answers at random, by the sum, of which one stands alone: so each state is one of the least question."""
    def told(total):
        return 3 if not any(total) else chance.randrange(3)

    return told


def two_answers(chance, letters, many):
    """A question at random with answers 0 and 1."""
    return any_question(chance, letters, many, 2)


class TestInterface(unittest.TestCase):
    def test_examples(self):
        even = (2, ((1, 0), (0, 1)), (1, 0))
        some = (2, ((1, 0), (1, 1)), (0, 1))
        found = [
            sums(even), shows_sums(even, ((2,), ((1,), (0,)), {(0,): 1, (1,): 0})),
            shows_sums(even, ((2,), ((0,), (1,)), {(0,): 1, (1,): 0})),
        ]
        self.assertEqual(found, [((2,), ((1,), (0,)), {(0,): 1, (1,): 0}), True, False])
        found = [both(even, some), either_kept("in", even, some), either_kept("inout", even, some)]
        self.assertEqual(found, [(2, ((1, 0), (2, 1), (1, 2)), (1, 2, 3)), True, False])
        self.assertEqual(error_of(sums, some), ("NoKeeper", {}))

    def test_defined_here(self):
        for name in ("sums", "shows_sums", "both", "either_kept"):
            self.assertEqual(getattr(file_of_sums, name).__module__, "toldwhat.sums")

    def test_names_of_arguments(self):
        self.assertIs(shows_sums(question=EVEN, value=sums(question=EVEN)), True)
        self.assertEqual(both(one=EVEN, other=SOME), both(EVEN, SOME))
        self.assertIs(either_kept(world="in", one=EVEN, other=SOME), True)


class TestSums(unittest.TestCase):
    def check(self, question, plain=None):
        small = least(question)
        found = sums(question)
        moduli, weights, answers = found
        self.assertEqual([type(found), type(moduli), type(weights), type(answers)], [tuple, tuple, tuple, dict])
        self.assertTrue(all(modulus > 1 for modulus in moduli))
        self.assertTrue(all(high % low == 0 for low, high in zip(moduli, moduli[1:])))
        self.assertEqual(set(answers), set(itertools.product(*[range(modulus) for modulus in moduli])))
        self.assertEqual(len(answers), len(small[1]))
        self.assertEqual(len(weights), question[0])
        for weight in weights:
            self.assertEqual(len(weight), len(moduli))
            self.assertTrue(all(is_number(part, 0, modulus - 1) for part, modulus in zip(weight, moduli)))
        for text in short_texts(question[0], {1: 40, 2: 6, 3: 4}[question[0]]):
            self.assertEqual(answers[sum_of(found, text)], slow_answer(question, text), (question, text))
        self.assertTrue(slow_shows(question, found), (question, found))
        self.assertIs(shows_sums(question, found), True)
        if plain is not None:
            self.assertEqual(moduli, plain)
        return found

    def test_groups(self):
        chance = random.Random(81)
        for moduli, weights, plain in GROUPS:
            self.check(group(moduli, weights, any_told(chance)), plain)

    def test_states_in_any_order(self):
        chance = random.Random(82)
        for _ in range(60):
            moduli, weights, plain = chance.choice(GROUPS)
            question = group(moduli, weights, any_told(chance))
            places = [0] + chance.sample(range(1, len(question[1])), len(question[1]) - 1)
            self.check(shown(question, places), plain)

    def test_any_weights(self):
        chance = random.Random(88)
        rows = [row for size in (1, 2, 3) for row in itertools.product(range(2, 41), repeat=size)]
        rows = [row for row in rows if math.prod(row) <= 40]
        for _ in range(150):
            moduli = chance.choice(rows)
            weights = tuple(
                tuple(chance.randrange(modulus) for modulus in moduli) for _ in range(chance.randint(1, 3))
            )
            self.check(group(moduli, weights, any_told(chance)))

    def test_all_small(self):
        for letters, most in ((1, 4), (2, 2), (3, 2)):
            for many in range(1, most + 1):
                for question in all_questions(letters, many):
                    if slow_can_keep("inout", question):
                        self.check(question)
                    else:
                        self.assertEqual(error_of(sums, question), bad("NoKeeper"))

    def test_any_that_can_be_kept(self):
        chance = random.Random(83)
        kept = 0
        for _ in range(2000):
            question = any_question(chance, chance.randint(1, 3), chance.randint(1, 3), 4)
            if can_keep("inout", question):
                self.check(question)
                kept += 1
        self.assertGreater(kept, 100)

    def test_one_state(self):
        for letters, told in itertools.product((1, 2, 3), range(4)):
            question = (letters, ((0,) * letters,), (told,))
            self.assertEqual(sums(question), ((), ((),) * letters, {(): told}))
            self.assertIs(shows_sums(question, ((), ((),) * letters, {(): told})), True)
            self.assertIs(shows_sums(question, ((), ((),) * letters, {(): (told + 1) % 4})), False)
            self.assertIs(shows_sums(question, ((1,), ((0,),) * letters, {(0,): told})), False)
            self.assertIs(shows_sums(question, ((), ((),) * (letters + 1), {(): told})), False)
            self.assertIs(shows_sums(question, ((2,), ((0,),) * letters, {(0,): told, (1,): told})), False)
            self.assertIs(shows_sums(question, ((), ((),) * letters, {})), False)
        doubled = (1, ((1,), (0,)), (2, 2))
        self.assertEqual(sums(doubled), ((), ((),), {(): 2}))

    def test_rings(self):
        for many in range(1, 41):
            moduli, weights, answers = self.check(ring(many))
            self.assertEqual(moduli, (many,) if many > 1 else ())
            self.assertEqual(len(answers), many)

    def test_answers_alike(self):
        # Half of the states are alike with the other half.
        question = group((2, 4), ((1, 0), (0, 1)), lambda total: total[1] % 2)
        self.check(question, (2,))
        question = group((6,), ((1,), (2,)), lambda total: int(total[0] % 3 == 0))
        self.check(question, (3,))

    def test_no_keeper(self):
        orders = (2, ((1, 1), (0, 2), (2, 0)), (1, 0, 0))
        for question in (SOME, LAST, orders, (1, ((1,), (1,)), (0, 1))):
            self.assertEqual(error_of(sums, question), bad("NoKeeper"))
            for value in (None, GOOD, (), DEEP, ((), ((), ()), {(): 0})):
                self.assertEqual(error_of(shows_sums, question, value), bad("NoKeeper"))


class TestShowsSums(unittest.TestCase):
    def test_right_ones_of_another_form(self):
        five = ring(5)
        moduli, weights, answers = (5,), ((1,),), {(at,): int(at == 0) for at in range(5)}
        for unit in range(1, 5):
            turned = {(unit * at % 5,): told for (at,), told in answers.items()}
            self.assertIs(shows_sums(five, (moduli, ((unit,),), turned)), True)
        pairs = group((2, 2), ((1, 0), (0, 1)), lambda total: total[0] + 2 * total[1])
        shown_so = 0
        for one, other in itertools.permutations(((0, 1), (1, 0), (1, 1)), 2):
            triple = ((2, 2), (one, other), {})
            for text in short_texts(2, 2):
                triple[2][sum_of(triple, text)] = slow_answer(pairs, text)
            self.assertIs(shows_sums(pairs, triple), True, triple)
            shown_so += 1
        self.assertEqual(shown_so, 6)

    def test_all_triples(self):
        # All moduli, weights and answers there could be, for questions of up to four states.
        tried = (
            EVEN, ring(3), ring(4), (1, ((0,),), (2,)), group((2, 2), ((1, 0), (0, 1)), lambda total: int(total == (1, 1))),
            group((4,), ((1,), (2,)), lambda total: int(total == (3,))),
        )
        for question in tried:
            shows = 0
            for moduli in ((), (2,), (3,), (4,), (2, 2), (5,), (2, 4)):
                every = list(itertools.product(*[range(modulus) for modulus in moduli]))
                for weights in itertools.product(every, repeat=question[0]):
                    for told in itertools.product(range(3 if question[2] == (2,) else 2), repeat=min(len(every), 5)):
                        value = (moduli, weights, dict(zip(every, told)))
                        expected = slow_shows(question, value)
                        shows += expected
                        self.assertIs(shows_sums(question, value), expected, (question, value))
            self.assertGreater(shows, 0)

    def test_one_part_changed(self):
        chance = random.Random(84)
        refused = 0
        for moduli, weights, _ in GROUPS:
            question = group(moduli, weights, any_told(chance))
            found = sums(question)
            for _ in range(15):
                value = self.changed(found, chance)
                expected = slow_shows(question, value)
                refused += not expected
                self.assertIs(shows_sums(question, value), expected, (question, value))
        self.assertGreater(refused, 200)

    def changed(self, found, chance):
        moduli, weights, answers = found
        kind = chance.randrange(4)
        if kind == 0:
            letter = chance.randrange(len(weights))
            weight = tuple(chance.randrange(modulus) for modulus in moduli)
            return moduli, weights[:letter] + (weight,) + weights[letter + 1:], answers
        if kind == 1:
            return moduli, weights, {**answers, chance.choice(list(answers)): chance.randrange(4)}
        if kind == 2:
            return moduli[::-1], tuple(weight[::-1] for weight in weights), {key[::-1]: told for key, told in answers.items()}
        keys = list(answers)
        return moduli, weights, dict(zip(keys, chance.sample(list(answers.values()), len(keys))))

    def test_wrong_parts(self):
        self.assertIs(shows_sums(EVEN, GOOD), True)
        for at, values in enumerate((NOT_MODULI, NOT_WEIGHTS, NOT_DICTS)):
            for number, value in enumerate(values):
                triple = GOOD[:at] + (value,) + GOOD[at + 1:]
                self.assertIs(shows_sums(EVEN, triple), False, (at, number))
        for value in NEVER + ((), GOOD[:2], GOOD + (0,), list(GOOD), (GOOD,), DEEP, (DEEP, DEEP, DEEP), (DEEP_LIST,) * 3):
            self.assertIs(shows_sums(EVEN, value), False)

    def test_order_of_keys(self):
        self.assertIs(shows_sums(EVEN, GOOD[:2] + ({(1,): 0, (0,): 1},)), True)

    def test_moduli_that_do_not_divide(self):
        six = ring(6)
        answers = {(a, b): int((a, b) == (0, 0)) for a in range(2) for b in range(3)}
        self.assertIs(shows_sums(six, ((2, 3), ((1, 1),), answers)), False)
        self.assertIs(shows_sums(six, ((6,), ((1,),), {(at,): int(at == 0) for at in range(6)})), True)
        eight = group((2, 4), ((1, 0), (0, 1)), lambda total: int(total == (0, 0)))
        turned = {(b, a): int((a, b) == (0, 0)) for a in range(2) for b in range(4)}
        self.assertIs(shows_sums(eight, ((4, 2), ((0, 1), (1, 0)), turned)), False)
        self.assertIs(shows_sums(eight, sums(eight)), True)

    def test_more_sums_than_states(self):
        doubled = {(at,): 1 - at % 2 for at in range(4)}
        self.assertIs(shows_sums(EVEN, ((4,), ((1,), (0,)), doubled)), False)
        self.assertIs(shows_sums(EVEN, ((4,), ((2,), (0,)), {(0,): 1, (2,): 0})), False)
        self.assertIs(shows_sums(EVEN, ((2, 2), ((1, 0), (0, 0)), {(0, 0): 1, (1, 0): 0})), False)


class TestBoth(unittest.TestCase):
    def check(self, one, other):
        found = both(one, other)
        self.assertEqual(found, least(found))
        for text in short_texts(one[0], {1: 12, 2: 6, 3: 4}[one[0]]):
            expected = slow_answer(one, text) + 2 * slow_answer(other, text)
            self.assertEqual(slow_answer(found, text), expected, (one, other, text))
        return found

    def test_all_small(self):
        for letters, many in ((1, 2), (2, 1), (3, 1)):
            rows = list(all_questions(letters, many))
            for one, other in itertools.product(rows, rows):
                found = self.check(one, other)
                self.assertEqual(found, slow_least(found))
        rows = list(itertools.islice(all_questions(2, 2), 0, None, 5))
        for one, other in itertools.product(rows, rows):
            self.check(one, other)

    def test_any(self):
        chance = random.Random(85)
        for _ in range(100):
            letters = chance.randint(1, 3)
            one, other = [two_answers(chance, letters, chance.randint(1, 6)) for _ in range(2)]
            self.check(one, other)

    def test_same(self):
        for question in (EVEN, SOME, LAST, ring(40)):
            found = self.check(question, question)
            self.assertEqual(found[:2], least(question)[:2])
            self.assertEqual(found[2], tuple(3 * told for told in least(question)[2]))

    def test_states_that_are_alike(self):
        # Forty states each, but two each in the least questions.
        evens = ring(40, (1, 0) * 20)
        self.assertEqual(both(evens, evens), (1, ((1,), (0,)), (3, 0)))
        self.assertEqual(len(both(evens, ring(40))[1]), 40)

    def test_just_forty(self):
        self.assertEqual(len(self.check(ring(5), ring(8))[1]), 40)
        self.assertEqual(len(self.check(ring(8), ring(40))[1]), 40)
        rows = tuple((min(state + 1, 39), state) for state in range(40))
        chain = (2, rows, (0,) * 39 + (1,))
        self.assertEqual(len(self.check(chain, chain)[1]), 40)

    def test_more_than_forty(self):
        for one, other in ((ring(39), ring(40)), (ring(6), ring(7)), (ring(3), ring(14)), (ring(20), ring(3))):
            self.assertEqual(error_of(both, one, other), bad("TooMany", most=40))
            for world in WORLDS:
                self.assertIs(either_kept(world, one, other), True)
        # 41 states: a chain beside a ring with one state ahead of it.
        chain = (1, tuple((min(state + 1, 39),) for state in range(40)), (0,) * 39 + (1,))
        self.assertEqual(error_of(both, chain, ring(2)), bad("TooMany", most=40))
        shorter = (1, tuple((min(state + 1, 38),) for state in range(39)), (0,) * 38 + (1,))
        self.assertEqual(len(self.check(shorter, ring(2))[1]), 40)

    def test_written_out(self):
        self.assertEqual(both(SOME, EVEN), (2, ((1, 0), (2, 1), (1, 2)), (2, 1, 3)))
        self.assertEqual(both(ring(2), ring(3)), (1, ((1,), (2,), (3,), (4,), (5,), (0,)), (3, 0, 1, 2, 1, 0)))


class TestEitherKept(unittest.TestCase):
    def test_against_each(self):
        chance = random.Random(86)
        for _ in range(120):
            letters = chance.randint(1, 3)
            one, other = [two_answers(chance, letters, chance.randint(1, 4)) for _ in range(2)]
            for world in WORLDS:
                found = either_kept(world, one, other)
                self.assertIs(found, can_keep(world, one) and can_keep(world, other), (world, one, other))
                self.assertIs(found, can_keep(world, both(one, other)), (world, one, other))

    def test_written_out(self):
        for world in WORLDS:
            kept = {name: can_keep(world, question) for name, question in (("even", EVEN), ("some", SOME), ("last", LAST))}
            for one, other in itertools.product((("even", EVEN), ("some", SOME), ("last", LAST)), repeat=2):
                self.assertIs(either_kept(world, one[1], other[1]), kept[one[0]] and kept[other[0]])

    def test_any_number_of_states(self):
        chance = random.Random(87)
        for world in WORLDS:
            self.assertIs(either_kept(world, ring(39), ring(40)), True)
            one, other = two_answers(chance, 2, 40), two_answers(chance, 2, 40)
            self.assertEqual(error_of(both, one, other), bad("TooMany", most=40))
            self.assertIs(either_kept(world, one, other), can_keep(world, one) and can_keep(world, other))


class TestWrong(unittest.TestCase):
    def test_questions(self):
        questions = [(value, bad("BadQuestion", part=part)) for value, part in WRONG_QUESTIONS]
        check_arguments(self, sums, [EVEN], [questions])
        check_arguments(self, shows_sums, [EVEN, None], [questions, ()])
        check_arguments(self, both, [EVEN, SOME], [questions, questions])
        check_arguments(self, either_kept, ["in", EVEN, SOME], [WRONG_WORLDS, questions, questions])

    def test_not_alike(self):
        for one, other in itertools.permutations((ring(3), EVEN, (3, ((0, 0, 0),), (0,))), 2):
            self.assertEqual(error_of(both, one, other), bad("NotAlike"))
            self.assertEqual(error_of(either_kept, "end", one, other), bad("NotAlike"))
            self.assertEqual(error_of(either_kept, "End", one, other), bad("BadWorld"))

    def test_answers(self):
        wrong = bad("BadQuestion", part="answers")
        two, three = (2, EVEN[1], (2, 0)), (2, EVEN[1], (0, 3))
        for one, other in ((two, EVEN), (EVEN, two), (three, SOME), (SOME, three), (two, three)):
            self.assertEqual(error_of(both, one, other), wrong)
            for world in WORLDS:
                self.assertEqual(error_of(either_kept, world, one, other), wrong)
        # Also an answer of a state that no text leads to.
        unmet = (2, ((0, 0), (0, 0)), (1, 2))
        self.assertEqual(error_of(both, unmet, EVEN), wrong)
        self.assertEqual(error_of(both, EVEN, unmet), wrong)

    def test_order_of_errors(self):
        steps, two, three = bad("BadQuestion", part="steps"), (2, EVEN[1], (2, 0)), (3, ((0, 0, 0),), (2,))
        # Behind BadQuestion of both, and then behind NotAlike, comes an answer that is let elsewhere.
        self.assertEqual(error_of(both, two, (2, (), ())), steps)
        self.assertEqual(error_of(both, (2, (), ()), two), steps)
        self.assertEqual(error_of(both, two, three), bad("NotAlike"))
        self.assertEqual(error_of(both, three, two), bad("NotAlike"))
        self.assertEqual(error_of(both, ring(3), THREE), bad("NotAlike"))
        self.assertEqual(error_of(both, (1, ((0,),), (4,)), two), bad("BadQuestion", part="answers"))
        self.assertEqual(error_of(both, ring(3), (9, (), ())), bad("BadQuestion", part="letters"))
        # TooMany comes last.
        told = (1, 2) + (0,) * 38
        self.assertEqual(error_of(both, ring(39), ring(40, told)), bad("BadQuestion", part="answers"))
        for world in ("in", "end"):
            self.assertEqual(error_of(either_kept, world, two, (2, (), ())), steps)
            self.assertEqual(error_of(either_kept, world, two, three), bad("NotAlike"))

    def test_sums_before_no_keeper(self):
        self.assertEqual(error_of(sums, (2, SOME[1], (0, 4))), bad("BadQuestion", part="answers"))
        self.assertEqual(error_of(shows_sums, (2, SOME[1], (0, 4)), None), bad("BadQuestion", part="answers"))


class TestUnchanged(unittest.TestCase):
    def test_values(self):
        values = (
            GOOD, ((2,), ((1,), (0,)), {(0,): 1}), [(2,), [(1,)], {}], ([2], [[1], [0]], {(0,): [1]}), {}, [], {0: [1]},
            ((2,), ((1,), (0,)), {(1,): 0, (0,): 1}),
        )
        for value in values:
            before = copy.deepcopy(value)
            shows_sums(EVEN, value)
            for call in (sums, both):
                self.assertIsNotNone(error_of(call, *[value] * (1 if call is sums else 2)))
            self.assertIsNotNone(error_of(both, EVEN, value))
            self.assertIsNotNone(error_of(either_kept, "in", EVEN, value))
            self.assertIsNotNone(error_of(either_kept, value, EVEN, SOME))
            self.assertEqual(value, before)
        order = ((2,), ((1,), (0,)), {(1,): 0, (0,): 1})
        shows_sums(EVEN, order)
        self.assertEqual(list(order[2]), [(1,), (0,)])

    def test_returned_dicts_are_new(self):
        found = sums(EVEN)
        found[2].clear()
        self.assertEqual(sums(EVEN), GOOD)
        self.assertIsNot(sums(EVEN)[2], sums(EVEN)[2])

    def test_kinds(self):
        for question in (EVEN, ring(12), ONLY):
            moduli, weights, answers = sums(question)
            for row in (moduli, *weights, *answers, tuple(answers.values())):
                self.assertIs(type(row), tuple)
                for number in row:
                    self.assertIs(type(number), int)
        found = both(EVEN, SOME)
        self.assertEqual([type(part) for part in found], [int, tuple, tuple])


if __name__ == "__main__":
    unittest.main()

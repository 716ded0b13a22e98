"""Going on from a word: [110], [111], [112] and the interface of continuing.py."""

import unittest

from guardwords.comparing import compare, within
from guardwords.continuing import beginnings, each_rest, rest, some_rest, verdict
from guardwords.errors import BadLetter, OtherKinds
from guardwords.forms import least
from guardwords.joining import both_take, followed, not_taken, one_takes
from guardwords.machines import check_machine, first_word, takes
from tests import naive, naive_words
from tests.support import COLOURS, INTEGERS, NUMBERED, Case, Chance

EVEN = ("mod", 2, 0)
ODD = ("not", EVEN)
TRUE = ("true",)
NEVER = ("and", EVEN, ("mod", 4, 1))
BIG = 10 ** 29
LAST_EVEN = (INTEGERS, 2, (0,), (1,), ((0, TRUE, 0), (0, EVEN, 1)))
PARITY = (INTEGERS, 2, (0,), (0,), ((0, EVEN, 0), (0, ODD, 1), (1, EVEN, 1), (1, ODD, 0)))
ONE_EVEN = (INTEGERS, 2, (0,), (1,), ((0, EVEN, 1),))
NOTHING = (INTEGERS, 2, (0,), (1,), ((0, EVEN, 0), (0, NEVER, 1)))
ALL = (INTEGERS, 1, (0,), (0,), ((0, TRUE, 0),))
ONLY_EMPTY = (INTEGERS, 1, (0,), (0,), ())


def some_words(chance, machine, many=12):
    """Words near the conditions of the machine, and some far from them."""
    letters = naive.letters_of_all(machine)
    short = [tuple(chance.choice(letters) for _ in range(chance.randint(0, 4))) for _ in range(many)]
    return short + [chance.word(machine[0], chance.randint(1, 3), BIG)]


class Going(Case):
    def well_formed(self, found, kind, bound):
        self.assertIsNone(check_machine(found))
        self.assertEqual(found[0], kind)
        self.assertTrue(1 <= found[1] <= bound)
        for states in found[2:4]:
            self.assertEqual(list(states), sorted(set(states)))
            self.assertTrue(all(0 <= state < found[1] for state in states))


class Rest(Going):
    def test_edges(self):
        self.same(least(rest(LAST_EVEN, ())), least(LAST_EVEN))
        self.same([takes(rest(LAST_EVEN, (word,)), ()) for word in (2, 3, BIG, -BIG - 1)], [True, False, True, False])
        nowhere = rest(ONE_EVEN, (3,))
        self.assertIsNone(first_word(nowhere))
        self.well_formed(nowhere, INTEGERS, 2)
        self.assertIsNone(first_word(rest(nowhere, (2,))))
        self.assertIsNone(first_word(rest((INTEGERS, 1, (), (0,), ()), ())))
        self.same(first_word(rest(ONE_EVEN, (2,))), ())
        self.assertIsNone(first_word(rest(ONE_EVEN, (2, 2))))

    def test_by_chance(self):
        for chance, machine in naive.drawn(range(150)):
            for word in some_words(chance, machine):
                found = rest(machine, word)
                self.well_formed(found, machine[0], machine[1])
                for behind in some_words(chance, machine, 6):
                    self.assertIs(takes(found, behind), naive.taken(machine, word + behind))

    def test_letter_by_letter(self):
        for chance, machine in naive.drawn(range(60)):
            word = chance.word(machine[0], 4)
            self.same(least(rest(rest(machine, word[:2]), word[2:])), least(rest(machine, word)))


class Verdict(Going):
    def test_edges(self):
        for machine, word, wanted in (
            (LAST_EVEN, (), ((0,), ())), (LAST_EVEN, (2,), ((), (1,))), (PARITY, (1,), ((1,), ())),
            (ONE_EVEN, (3,), (None, ())), (ONE_EVEN, (2,), ((), (0,))), (ONE_EVEN, (2, 2), (None, ())),
            (ALL, (), ((), None)), (ALL, (1, BIG, 3), ((), None)), (NOTHING, (), (None, ())), (NOTHING, (7,), (None, ())),
            ((INTEGERS, 1, (), (0,), ()), (), (None, ())), (ONLY_EMPTY, (), ((), (0,))),
            ((INTEGERS, 3, (0,), (0, 1, 2), ((0, EVEN, 1), (0, TRUE, 2), (2, ("<", 9), 0))), (1,), ((), (9,))),
            ((INTEGERS, 3, (0,), (0, 1), ((0, EVEN, 1), (1, TRUE, 1), (0, ODD, 0))), (2,), ((), None)),
            ((INTEGERS, 3, (0,), (0, 1), ((0, EVEN, 1), (1, TRUE, 1), (0, ODD, 0))), (), ((), None)),
            ((COLOURS, 2, (0,), (1,), ((0, ("is", "blue"), 1), (1, TRUE, 1))), ("red",), (None, ())),
        ):
            self.same(verdict(machine, word), wanted)

    def test_none_stays(self):
        for chance, machine in naive.drawn(range(100)):
            word = chance.word(machine[0], 2)
            before = verdict(machine, word)
            after = verdict(machine, word + chance.word(machine[0], 2))
            for one, other in zip(before, after):
                self.assertTrue(one is not None or other is None)
            self.assertIn((), before)

    def test_by_chance(self):
        for chance, machine in naive.drawn(range(150)):
            for word in some_words(chance, machine, 5):
                states = naive.behind_word(machine, machine[2], word)
                wanted = (naive_words.first_from(machine, states, True), naive_words.first_from(machine, states, False))
                self.same(verdict(machine, word), wanted)
                self.same((first_word(rest(machine, word)), first_word(not_taken(rest(machine, word)))), wanted)


class BehindWords(Going):
    def check(self, chance, first, second):
        kind = first[0]
        sets = naive_words.sets_behind_words(first, second)
        words = some_words(chance, first, 6) + some_words(chance, second, 6) + [()]
        some, each = some_rest(first, second), each_rest(first, second)
        self.well_formed(some, kind, second[1])
        self.well_formed(each, kind, 2 ** (2 ** second[1]))
        for word in words:
            ended = [naive.ended(second, naive.behind_word(second, states, word)) for states in sets]
            self.assertIs(takes(some, word), any(ended), (first, second, word))
            self.assertIs(takes(each, word), all(ended), (first, second, word))

    def test_a_first_machine_without_words(self):
        for second in (ALL, PARITY, LAST_EVEN, NOTHING, ONE_EVEN):
            for first in (NOTHING, (INTEGERS, 1, (), (0,), ()), (INTEGERS, 2, (0,), (), ((0, TRUE, 1),))):
                self.assertIsNone(first_word(some_rest(first, second)))
                self.assertIsNone(compare(each_rest(first, second), ALL))

    def test_edges(self):
        for second in (ALL, PARITY, LAST_EVEN, NOTHING, ONE_EVEN):
            self.assertIsNone(compare(some_rest(ONLY_EMPTY, second), second))
            self.assertIsNone(compare(each_rest(ONLY_EMPTY, second), second))
        self.assertIsNone(compare(each_rest(ONE_EVEN, PARITY), PARITY))
        self.assertIsNone(first_word(each_rest(ALL, PARITY)))
        self.same(first_word(each_rest(ALL, LAST_EVEN)), (0,))
        self.same(first_word(not_taken(some_rest(ALL, PARITY))), None)
        self.assertIs(takes(some_rest(ONE_EVEN, PARITY), (1,)), False)
        self.assertIs(takes(some_rest(LAST_EVEN, PARITY), (1,)), True)

    def test_two_states_and_many_sets(self):
        # From the sets {0}, {1} and {0, 1} three different families of sets go on.
        second = (INTEGERS, 2, (0,), (0,), (
            (0, ("=", 0), 0), (0, ("=", 1), 1), (1, ("=", 1), 0), (0, ("=", 2), 0), (0, ("=", 2), 1), (1, (">", 4), 1)))
        for chance, first in naive.drawn(range(0, 300, 10), states=3):
            if first[0] == INTEGERS:
                self.check(chance, first, second)
        self.check(Chance(0), ALL, second)

    def test_by_chance(self):
        for chance, first in naive.drawn(range(200)):
            self.check(chance, first, chance.machine(first[0], states=2, steps=6))

    def test_all_kinds(self):
        for seed in range(60):
            chance = Chance(seed, 20, (1, 2, 3, 4))
            first = chance.machine(chance.kind())
            second = chance.machine(first[0], states=2)
            some, each = some_rest(first, second), each_rest(first, second)
            self.well_formed(some, first[0], second[1])
            self.well_formed(each, first[0], 16)
            if first_word(first) is not None:
                self.assertIsNone(within(each, some))
                self.assertIsNone(within(followed(first, each), second))

    def test_the_greatest_language(self):
        # One more word put to each_rest is not taken any more behind some word of the first machine.
        for chance, first in naive.drawn(range(100)):
            second = chance.machine(first[0], states=2)
            each = each_rest(first, second)
            self.assertIsNone(within(followed(first, each), second))
            word = first_word(not_taken(each)) if each[1] <= 16 else None
            if word is not None:
                one = (first[0], len(word) + 1, (0,), (len(word),), tuple((k, equals(first[0], a), k + 1) for k, a in enumerate(word)))
                self.assertIsNotNone(within(followed(first, one), second))

    def test_some_rest_of_a_machine_of_many_states(self):
        second = one_takes(one_takes(PARITY, LAST_EVEN), one_takes(ONE_EVEN, PARITY))
        found = some_rest(ONE_EVEN, second)
        self.well_formed(found, INTEGERS, 8)
        self.same([takes(found, word) for word in ((), (1,), (2,), (1, 1))], [True, False, True, True])


def equals(kind, letter):
    """A condition that only this letter meets."""
    if kind == INTEGERS:
        return ("=", letter)
    if kind[0] == "names":
        return ("is", letter)
    if kind[0] == "pair":
        return ("and", ("first", equals(kind[1], letter[1])), ("second", equals(kind[2], letter[2])))
    if kind[0] == "either":
        return ("case", letter[1], equals(kind[1][letter[1]], letter[2]))
    return ("none",) if letter == ("none",) else ("some", equals(kind[1], letter[1]))


class Beginnings(Going):
    def test_edges(self):
        self.same([takes(beginnings(ONE_EVEN), word) for word in ((), (2,), (3,), (2, 2))], [True, True, False, False])
        self.assertIsNone(first_word(beginnings(NOTHING)))
        self.assertIsNone(compare(beginnings(LAST_EVEN), ALL))
        self.assertIsNone(first_word(beginnings((INTEGERS, 1, (), (0,), ()))))
        self.assertIsNone(compare(beginnings((INTEGERS, 3, (0,), (2,), ((0, EVEN, 1), (1, NEVER, 2), (0, ODD, 2)))),
                                  (INTEGERS, 2, (0,), (0, 1), ((0, ODD, 1),))))

    def test_by_chance(self):
        for chance, machine in naive.drawn(range(150)):
            found = beginnings(machine)
            self.well_formed(found, machine[0], machine[1])
            for word in some_words(chance, machine):
                states = naive.behind_word(machine, machine[2], word)
                self.assertIs(takes(found, word), naive_words.first_from(machine, states, True) is not None)
                self.assertIs(takes(found, word), verdict(machine, word)[0] is not None)

    def test_twice(self):
        for chance, machine in naive.drawn(range(60)):
            found = beginnings(machine)
            self.same(least(beginnings(found)), least(found))
            self.assertIsNone(within(machine, found))


class Refused(Case):
    def test_other_kinds(self):
        for one, other in (
            (INTEGERS, COLOURS), (COLOURS, ("names", ("blue", "red"))), (("maybe", INTEGERS), INTEGERS),
            (NUMBERED, ("pair", ("names", ("blue", "red")), INTEGERS)),
        ):
            first, second = (one, 1, (0,), (0,), ((0, TRUE, 0),)), (other, 1, (0,), (0,), ())
            for call in (some_rest, each_rest):
                with self.refuses(OtherKinds):
                    call(first, second)
                with self.refuses(OtherKinds):
                    call(second, first)
                self.assertEqual(call(first, first)[0], one)

    def test_bad_letters(self):
        for call in (rest, verdict):
            for word in (("red",), (2, ("none",)), (3, 3, ("some", 2), 4), (1, 2, 3, 4, 5, 6, 7, "blue")):
                for machine in (LAST_EVEN, NOTHING, (INTEGERS, 1, (), (), ())):
                    with self.refuses(BadLetter):
                        call(machine, word)
            call(LAST_EVEN, (BIG, 1))


class PassedOn(Going):
    def test_returned_machines(self):
        for seed in range(60):
            chance = Chance(seed, 20, (1, 2, 3, 4))
            machine = chance.machine(chance.kind())
            second = chance.machine(machine[0], states=2)
            for told in (least(machine), both_take(machine, second), followed(machine, second)):
                if told[1] <= 16:
                    word = chance.word(machine[0], 2, 20)
                    self.well_formed(rest(told, word), machine[0], told[1])
                    self.well_formed(beginnings(told), machine[0], told[1])
                    self.well_formed(some_rest(told, told), machine[0], told[1])
                    self.well_formed(each_rest(told, second), machine[0], 16)
                    self.same(verdict(told, word)[0], first_word(rest(told, word)))

    def test_the_same_question_has_the_same_answer(self):
        machines = [(one, chance.machine(one[0], states=2)) for chance, one in naive.drawn(range(40))]

        def answers(one, other):
            return (rest(one, ()), verdict(one, ()), some_rest(one, other), each_rest(one, other), beginnings(one))

        before = [answers(*two) for two in machines]
        after = [answers(*two) for two in machines[::-1]][::-1]
        self.same(after, before)


if __name__ == "__main__":
    unittest.main()

"""Machines: [60], [61], [62] and the interface of machines.py."""

import itertools
import unittest

from guardwords.errors import BadCondition, BadLetter
from guardwords.forms import determined, least
from guardwords.machines import check_machine, first_word, is_trap, states_behind, takes, trap, undetermined
from tests import naive
from tests.support import COLOURS, INTEGERS, NUMBERED, Case, Chance

EVEN = ("mod", 2, 0)
ODD = ("not", EVEN)
BIG = 10 ** 29
TRUE = ("true",)
NEVER = ("and", EVEN, ("mod", 4, 1))
LAST_EVEN = (INTEGERS, 2, (0,), (1,), ((0, TRUE, 0), (0, EVEN, 1)))
PARITY = (INTEGERS, 2, (0,), (0,), ((0, EVEN, 0), (0, ODD, 1), (1, EVEN, 1), (1, ODD, 0)))


class CheckMachine(Case):
    def test_conditions_that_fit(self):
        for machine in (LAST_EVEN, PARITY, (COLOURS, 1, (), (), ()), (COLOURS, 1, (0,), (0,), ((0, ("is", "red"), 0),))):
            self.assertIsNone(check_machine(machine))

    def test_misfits_at_each_step(self):
        for misfit in (("is", "red"), ("first", EVEN), ("and", ("false",), ("not", ("none",))), ("in", ("names", ())),
                       ("or", TRUE, ("in", ("pairs", ())))):
            for at in range(4):
                steps = list(PARITY[4])
                steps[at] = (0, misfit, 1)
                with self.refuses(BadCondition):
                    check_machine(PARITY[:4] + (tuple(steps),))
                self.assertIsNone(check_machine(PARITY))


class Behind(Case):
    def test_the_word_without_letters(self):
        self.same(states_behind(LAST_EVEN, ()), (0,))
        self.same(states_behind((INTEGERS, 3, (0, 2), (1,), ()), ()), (0, 2))
        self.same(states_behind((INTEGERS, 3, (), (1,), ()), ()), ())
        self.assertIs(takes(LAST_EVEN, ()), False)
        self.assertIs(takes(PARITY, ()), True)
        self.assertIs(takes((INTEGERS, 1, (), (0,), ()), ()), False)

    def test_several_starts_and_none(self):
        steps = ((0, EVEN, 1), (2, TRUE, 0), (2, TRUE, 0), (1, ODD, 2))
        self.same(states_behind((INTEGERS, 3, (0, 2), (), steps), (4,)), (0, 1))
        self.same(states_behind((INTEGERS, 3, (0, 2), (), steps), (3,)), (0,))
        self.same(states_behind((INTEGERS, 3, (0, 1, 2), (), steps), (4, 3)), (2,))
        self.same(states_behind((INTEGERS, 3, (), (0,), steps), (4,)), ())

    def test_long_words_and_long_integers(self):
        self.same(states_behind(LAST_EVEN, (1, 2, 3, 4, 5, 6, 7, 8)), (0, 1))
        self.same(states_behind(LAST_EVEN, (BIG, BIG + 1)), (0,))
        self.assertIs(takes(PARITY, (BIG + 1, -BIG - 1, 3, 5, 7, 9, 11, BIG * 10 - 1)), True)
        self.assertIs(takes(LAST_EVEN, (-BIG,)), True)

    def test_bad_letters_at_each_place(self):
        blind = (INTEGERS, 1, (), (), ())
        for machine in (LAST_EVEN, PARITY, blind):
            for bad in ("red", ("none",), ("some", 1), ("pair", 1, 2)):
                for at in range(4):
                    word = (1, 2, 3)[:at] + (bad,) + (1, 2, 3)[at:]
                    for function in (states_behind, takes):
                        with self.refuses(BadLetter):
                            function(machine, word)
        with self.refuses(BadLetter):
            takes((COLOURS, 1, (0,), (0,), ()), ("red", "green"))

    def test_by_chance(self):
        for chance, machine in naive.drawn(range(150), limit=10 ** 4):
            for length in range(9):
                word = chance.word(machine[0], length, chance.choice((2, 5, BIG)))
                self.same(states_behind(machine, word), naive.behind_word(machine, machine[2], word))
                self.assertIs(takes(machine, word), naive.taken(machine, word))


class FirstWordsAndTraps(Case):
    def test_a_path_that_no_letter_takes(self):
        nothing = (INTEGERS, 3, (0,), (2,), ((0, TRUE, 1), (1, NEVER, 2), (1, ("<", 0), 1)))
        self.assertIsNone(first_word(nothing))
        self.same(trap(nothing), (0, 1))
        self.assertIs(is_trap(nothing, (0, 1)), True)
        self.assertIs(is_trap(nothing, (0,)), False)

    def test_first_words(self):
        for machine, word in (
            (LAST_EVEN, (0,)), (PARITY, ()), ((INTEGERS, 2, (0,), (1,), ()), None), ((INTEGERS, 2, (), (1,), PARITY[4]), None),
            ((INTEGERS, 2, (0,), (), PARITY[4]), None), ((INTEGERS, 2, (0,), (1,), PARITY[4]), (1,)),
            ((INTEGERS, 3, (0, 1), (2,), ((0, (">", 4), 2), (1, ("<", 0), 2))), (-1,)),
            ((INTEGERS, 4, (0,), (3,), ((0, (">", 4), 1), (0, ("<", 0), 2), (1, ("=", 0), 3), (2, ("=", 9), 3))), (-1, 9)),
            ((INTEGERS, 4, (0,), (3,), ((0, ("=", 0), 1), (0, ("<", 0), 2), (1, ("false",), 3), (2, ("=", 9), 3))), (-1, 9)),
            ((INTEGERS, 4, (0,), (2, 3), ((0, TRUE, 1), (1, ("=", 7), 2), (1, ("=", -7), 3))), (0, 7)),
            ((NUMBERED, 2, (0,), (1,), ((0, ("second", ("<", -3)), 1),)), (("pair", "red", -4),)),
        ):
            self.same(first_word(machine), word)

    def test_is_trap(self):
        machine = (INTEGERS, 4, (0,), (3,), ((0, EVEN, 1), (1, ODD, 0), (2, TRUE, 3), (2, TRUE, 2), (1, NEVER, 3)))
        for states, wanted in (
            ((0, 1), True), ((0,), False), ((1,), False), ((), False), ((0, 1, 2), False), ((0, 1, 3), False),
            ((0, 1, 2, 3), False),
        ):
            self.assertIs(is_trap(machine, states), wanted)
        machine = (INTEGERS, 4, (0,), (3,), ((0, EVEN, 0), (2, ODD, 1)))
        self.same(trap(machine), (0,))
        for states in ((0,), (0, 1), (0, 1, 2)):
            self.assertIs(is_trap(machine, states), True)
        self.assertIs(is_trap(machine, (0, 2)), False)

    def test_without_starts(self):
        machine = (INTEGERS, 2, (), (0, 1), PARITY[4])
        self.same(trap(machine), ())
        self.assertIs(is_trap(machine, ()), True)
        self.assertIs(is_trap(machine, (0,)), False)

    def test_by_chance(self):
        for chance, machine in naive.drawn(range(300)):
            word = naive.first_word(machine)
            self.same(first_word(machine), word)
            states = naive.reached(machine)
            self.same(trap(machine), states if word is None else None)
            letters = naive.letters_of_all(machine)
            for size in range(machine[1] + 1):
                for told in itertools.combinations(range(machine[1]), size):
                    kept = all(set(naive.behind(machine, told, a)) <= set(told) for a in letters)
                    wanted = kept and set(machine[2]) <= set(told) and not naive.ended(machine, told)
                    self.assertIs(is_trap(machine, told), wanted)
                    if wanted:
                        self.assertIsNone(word)
                        self.assertLessEqual(set(states), set(told))


class Undetermined(Case):
    def test_each_way(self):
        for machine, wanted in (
            (PARITY, None), (LAST_EVEN, ("letter", 0, 0)), ((INTEGERS, 2, (), (0,), PARITY[4]), ("starts",)),
            ((INTEGERS, 2, (0, 1), (0,), PARITY[4]), ("starts",)), ((INTEGERS, 1, (0,), (), ()), ("letter", 0, 0)),
            ((INTEGERS, 2, (1,), (), PARITY[4]), None), ((INTEGERS, 2, (1,), (), PARITY[4][:3]), ("letter", 1, 1)),
            ((INTEGERS, 2, (0,), (), PARITY[4] + ((1, ("<", -4), 0),)), ("letter", 1, -6)),
            ((INTEGERS, 2, (0,), (), PARITY[4] + ((1, ("<", -4), 0), (0, ("=", 9), 1))), ("letter", 1, -6)),
            ((INTEGERS, 1, (0,), (), ((0, ("<", 4), 0), (0, (">", 0), 0), (0, EVEN, 0))), None),
            ((INTEGERS, 1, (0,), (), ((0, ("<", 4), 0), (0, (">", 4), 0))), ("letter", 0, 4)),
            ((INTEGERS, 3, (0,), (), PARITY[4]), ("letter", 2, 0)),
            ((COLOURS, 1, (0,), (), ((0, ("is", "red"), 0),)), ("letter", 0, "blue")),
            ((NUMBERED, 1, (0,), (), ((0, ("not", ("second", ("=", -2))), 0),)), ("letter", 0, ("pair", "red", -2))),
        ):
            self.same(undetermined(machine), wanted)

    def test_by_chance(self):
        for chance, machine in naive.drawn(range(200), states=2):
            self.same(undetermined(machine), naive.undetermined(machine))

    def test_returned_forms_are_determined(self):
        for chance, machine in naive.drawn(range(60)):
            self.assertIsNone(undetermined(determined(machine)))
            self.assertIsNone(undetermined(least(machine)))


class PassedOn(Case):
    def test_returned_machines_and_words(self):
        for seed in range(40):
            chance = Chance(seed, 20, (1, 2, 3, 4))
            machine = chance.machine(chance.kind())
            form = least(machine)
            word = first_word(machine)
            self.same(first_word(form), word)
            self.assertEqual(trap(form) is None, word is not None)
            if word is not None:
                self.assertIs(takes(machine, word), True)
                self.assertIs(takes(form, word), True)
            for length in range(4):
                told = chance.word(machine[0], length, 30)
                self.assertIs(takes(form, told), takes(machine, told))
                self.assertEqual(len(states_behind(form, told)), 1)

    def test_the_same_question_has_the_same_answer(self):
        machines = [machine for chance, machine in naive.drawn(range(40))]
        before = [(first_word(one), trap(one), undetermined(one)) for one in machines]
        after = [(first_word(one), trap(one), undetermined(one)) for one in machines[::-1]][::-1]
        self.same(after, before)


if __name__ == "__main__":
    unittest.main()

"""The determined form, the least form, first words and partings: [70] to [73] and the interface of forms.py."""

import unittest

from guardwords.comparing import compare
from guardwords.forms import determined, first_words, holds_against, least, partings
from guardwords.letters import words_compared
from guardwords.machines import takes, undetermined
from guardwords.sets import letters_of
from tests import naive
from tests.support import COLOURS, INTEGERS, NUMBERED, Case, Chance

EVEN = ("mod", 2, 0)
ODD = ("not", EVEN)
TRUE = ("true",)
NEVER = ("and", EVEN, ("mod", 4, 1))
LAST_EVEN = (INTEGERS, 2, (0,), (1,), ((0, TRUE, 0), (0, EVEN, 1)))
PARITY = (INTEGERS, 2, (0,), (0,), ((0, EVEN, 0), (0, ODD, 1), (1, EVEN, 1), (1, ODD, 0)))
# The third letter from the end is even: the least form has 8 states.
THIRD_LAST = (INTEGERS, 4, (0,), (3,), ((0, TRUE, 0), (0, EVEN, 1), (1, TRUE, 2), (2, TRUE, 3)))


def told(kind, condition):
    return ("in", letters_of(kind, condition))


class Determined(Case):
    def test_numbering_by_first_words(self):
        self.same(determined(LAST_EVEN), (
            INTEGERS, 2, (0,), (1,),
            ((0, told(INTEGERS, ODD), 0), (0, told(INTEGERS, EVEN), 1), (1, told(INTEGERS, ODD), 0), (1, told(INTEGERS, EVEN), 1))))
        machine = (INTEGERS, 3, (0,), (1,), ((0, (">", 3), 1), (0, ("<", 0), 2)))
        self.same(determined(machine), (
            INTEGERS, 4, (0,), (3,),
            ((0, told(INTEGERS, ("and", ("not", ("<", 0)), ("<", 4))), 1), (0, told(INTEGERS, ("<", 0)), 2),
             (0, told(INTEGERS, (">", 3)), 3), (1, told(INTEGERS, TRUE), 1), (2, told(INTEGERS, TRUE), 1),
             (3, told(INTEGERS, TRUE), 1))))

    def test_the_empty_set_as_a_state(self):
        nothing = ((0, told(INTEGERS, TRUE), 0),)
        for machine in ((INTEGERS, 1, (), (0,), ()), (INTEGERS, 4, (), (0, 1), ((0, EVEN, 1),))):
            self.same(determined(machine), (INTEGERS, 1, (0,), (), nothing))
        without_steps = (INTEGERS, 2, (0, 1), (0, 1), ())
        self.same(determined(without_steps), (
            INTEGERS, 2, (0,), (0,), ((0, told(INTEGERS, TRUE), 1), (1, told(INTEGERS, TRUE), 1))))
        self.same(least((INTEGERS, 2, (0, 1), (), ())), (INTEGERS, 1, (0,), (), nothing))

    def test_steps_that_no_letter_takes(self):
        machine = (INTEGERS, 2, (0,), (1,), ((0, NEVER, 1), (0, TRUE, 0)))
        self.same(determined(machine), (INTEGERS, 1, (0,), (), ((0, told(INTEGERS, TRUE), 0),)))

    def test_one_step_for_each_two_states(self):
        machine = (INTEGERS, 2, (0,), (1,), ((0, ("<", 0), 1), (0, (">", 4), 1), (0, ("<", 0), 1), (0, ("=", 0), 0), (1, TRUE, 1)))
        self.same(determined(machine)[4][:3], (
            (0, told(INTEGERS, ("=", 0)), 0),
            (0, told(INTEGERS, ("and", (">", 0), ("<", 5))), 1),
            (0, told(INTEGERS, ("or", ("<", 0), (">", 4))), 2)))

    def test_other_kinds(self):
        machine = (NUMBERED, 2, (0,), (1,), ((0, ("first", ("is", "blue")), 1), (1, ("second", EVEN), 1)))
        self.same(determined(machine), naive.determined(machine))
        machine = (("names", ("blue", "red")), 2, (0,), (1,), ((0, ("is", "red"), 1),))
        self.same(determined(machine)[4][:2], ((0, ("in", ("names", ("blue",))), 1), (0, ("in", ("names", ("red",))), 2)))

    def test_by_chance(self):
        for chance, machine in naive.drawn(range(150)):
            self.same(determined(machine), naive.determined(machine))


class Least(Case):
    def test_states_that_are_not_apart_are_one(self):
        twice = (INTEGERS, 4, (0,), (1, 3), (
            (0, EVEN, 1), (0, ODD, 2), (1, EVEN, 3), (1, ODD, 0), (2, EVEN, 1), (2, ODD, 2)))
        self.same(least(LAST_EVEN), determined(LAST_EVEN))
        self.assertLess(least(twice)[1], determined(twice)[1] + 1)
        self.same(least(twice), naive.least(twice))
        everything = (INTEGERS, 3, (0,), (0, 1, 2), ((0, EVEN, 1), (0, ODD, 2), (1, TRUE, 2), (2, TRUE, 0)))
        self.same(least(everything), (INTEGERS, 1, (0,), (0,), ((0, told(INTEGERS, TRUE), 0),)))
        nothing = (INTEGERS, 2, (0,), (1,), ((0, ("<", 0), 0), (0, NEVER, 1)))
        self.same(least(nothing), (INTEGERS, 1, (0,), (), ((0, told(INTEGERS, TRUE), 0),)))

    def test_eight_states(self):
        self.assertEqual(least(THIRD_LAST)[1], 8)
        self.same(least(THIRD_LAST), naive.least(THIRD_LAST))

    def test_by_chance(self):
        for chance, machine in naive.drawn(range(120)):
            form = least(machine)
            self.same(form, naive.least(machine))
            self.assertIsNone(undetermined(form))

    def test_forms_of_a_returned_form(self):
        for seed in range(80):
            chance = Chance(seed, 20, (1, 2, 3, 4))
            form = least(chance.machine(chance.kind()))
            if form[1] <= 16:
                self.same(least(form), form)
                self.same(determined(form), form)
                self.same(least(determined(form)), form)

    def test_same_words_exactly_if_same_least_form(self):
        equal = 0
        for chance, machine in naive.drawn(range(150), states=2, steps=3, many=2):
            other = chance.machine(machine[0], 2, 3, 2)
            word = naive.compare(machine, other)
            self.assertEqual(least(machine) == least(other), word is None)
            equal += word is None
        self.assertGreater(equal, 5)

    def test_the_same_machine_written_otherwise(self):
        for chance, machine in naive.drawn(range(60)):
            kind, many, starts, ends, steps = machine
            turned = tuple((many - 1 - p, ("not", ("not", c)), many - 1 - q) for p, c, q in reversed(steps + steps[:1]))
            other = (kind, many, tuple(sorted(many - 1 - p for p in starts)), tuple(sorted(many - 1 - p for p in ends)), turned)
            self.same(least(other), least(machine))


class Words(Case):
    def test_parity(self):
        self.same(first_words(PARITY), ((), (1,)))
        self.same(partings(PARITY), (((),), ()))
        self.same((first_words(THIRD_LAST), partings(THIRD_LAST)), (naive.first_words(THIRD_LAST), naive.partings(THIRD_LAST)))

    def test_one_state(self):
        nothing = (INTEGERS, 1, (), (), ())
        self.same((first_words(nothing), partings(nothing)), (((),), ((),)))

    def test_longer_partings(self):
        machine = (INTEGERS, 4, (0,), (3,), ((0, EVEN, 1), (1, (">", 2), 2), (2, ("<", -1), 3)))
        self.same(first_words(machine), ((), (0,), (1,), (0, 3), (0, 3, -2)))
        self.same(partings(machine), naive.partings(machine))
        self.same(partings(machine)[0], ((3, -2), (0, 3, -2), (-2,), ()))

    def test_by_chance(self):
        for chance, machine in naive.drawn(range(120)):
            self.same(first_words(machine), naive.first_words(machine))
            self.same(partings(machine), naive.partings(machine))

    def test_first_words_ascend(self):
        for seed in range(40):
            chance = Chance(seed, 20, (1, 2, 3, 4))
            machine = chance.machine(chance.kind())
            words = first_words(machine)
            self.assertEqual(len(words), least(machine)[1])
            for one, other in zip(words, words[1:]):
                self.same(words_compared(machine[0], one, other), -1)


class HoldsAgainst(Case):
    def naive(self, machine, words, told):
        return all(
            naive.taken(machine, words[i] + w) != naive.taken(machine, words[i + 1 + k] + w)
            for i, row in enumerate(told) for k, w in enumerate(row))

    def test_no_words_and_one_word(self):
        self.assertIs(holds_against(LAST_EVEN, (), ()), True)
        self.assertIs(holds_against(LAST_EVEN, ((3, 4),), ((),)), True)

    def test_two_words(self):
        for words, parting, wanted in (
            (((), (0,)), (), True), (((), (0,)), (1,), False), (((), (0,)), (2,), False), (((), (1,)), (), False),
            (((5,), (6,)), (), True), (((6,), (5, 8, 3)), (), True), (((6,), (5, 8)), (), False),
        ):
            self.assertIs(holds_against(LAST_EVEN, words, ((parting,), ())), wanted)
        self.assertIs(holds_against(PARITY, ((), (1,)), (((2, 3, 4),), ())), True)

    def test_what_was_returned_holds(self):
        for seed in range(80):
            chance = Chance(seed, 20, (1, 2, 3, 4))
            machine = chance.machine(chance.kind())
            words, parted = first_words(machine), partings(machine)
            self.assertIs(holds_against(machine, words, parted), True)
            if len(words) <= 16:
                self.assertIs(holds_against(least(machine), words, parted), True)

    def test_one_word_exchanged(self):
        for chance, machine in naive.drawn(range(120)):
            words, parted = list(first_words(machine)), [list(row) for row in partings(machine)]
            i = chance.randrange(len(words))
            if chance.random() < 0.5:
                words[i] = chance.word(machine[0], chance.randint(0, 3))
            elif parted[i]:
                parted[i][chance.randrange(len(parted[i]))] = chance.word(machine[0], chance.randint(0, 3))
            told = (tuple(words), tuple(tuple(row) for row in parted))
            self.assertIs(holds_against(machine, *told), self.naive(machine, *told))

    def test_by_chance(self):
        seen = []
        for chance, machine in naive.drawn(range(200)):
            many = chance.randint(0, 4)
            words = tuple(chance.word(machine[0], chance.randint(0, 3)) for _ in range(many))
            parted = tuple(
                tuple(chance.word(machine[0], chance.randint(0, 2)) for _ in range(many - 1 - i)) for i in range(many))
            found = holds_against(machine, words, parted)
            self.assertIs(found, self.naive(machine, words, parted))
            seen.append((many > 1, found))
        self.assertEqual(set(seen), {(False, True), (True, True), (True, False)})


class PassedOn(Case):
    def test_returned_machines(self):
        for seed in range(60):
            chance = Chance(seed, 20, (1, 2, 3, 4))
            machine = chance.machine(chance.kind())
            form, sets = least(machine), determined(machine)
            if sets[1] <= 16:
                self.assertIsNone(compare(machine, sets))
                self.assertIsNone(compare(sets, form))
                self.same(first_words(sets), first_words(machine))
                self.same(partings(form), partings(machine))
                for word in first_words(machine):
                    self.assertIs(takes(form, word), takes(machine, word))

    def test_integers_up_to_1000(self):
        wide = letters_of(INTEGERS, ("in", ("integers", (-1, (False,)), (7, 900), (1000, (True, False)))))
        machine = (INTEGERS, 2, (0,), (1,), ((0, ("in", wide), 1), (1, ("not", ("in", wide)), 1)))
        form = least(machine)
        self.same(first_words(machine), ((), (0,), (7,)))
        self.same(least(form), form)
        self.assertIs(takes(form, (900, 901, 1001)), True)
        self.assertIs(takes(form, (900, 901, 1002)), False)

    def test_the_same_question_has_the_same_answer(self):
        machines = [machine for chance, machine in naive.drawn(range(40))]
        before = [(least(one), determined(one), partings(one)) for one in machines]
        after = [(least(one), determined(one), partings(one)) for one in machines[::-1]][::-1]
        self.same(after, before)

    def test_names(self):
        machine = (COLOURS, 2, (0,), (0, 1), ((0, ("is", "red"), 1), (1, TRUE, 0)))
        self.same(least(machine), (COLOURS, 3, (0,), (0, 1), (
            (0, ("in", ("names", ("red",))), 1), (0, ("in", ("names", ("blue",))), 2),
            (1, ("in", ("names", ("red", "blue"))), 0), (2, ("in", ("names", ("red", "blue"))), 2))))


if __name__ == "__main__":
    unittest.main()

"""Runs and split tables: [90], [91] and the interface of runs.py."""

import itertools
import unittest

from guardwords.comparing import compare
from guardwords.forms import determined, least
from guardwords.joining import backwards, one_takes
from guardwords.machines import takes
from guardwords.runs import first_run, split_closes, split_table, two_runs, ways
from tests import naive, naive_words
from tests.support import COLOURS, INTEGERS, NUMBERED, Case, Chance

EVEN = ("mod", 2, 0)
ODD = ("not", EVEN)
TRUE = ("true",)
NEVER = ("and", EVEN, ("mod", 4, 1))
TICK = ("names", ("a",))
LAST_EVEN = (INTEGERS, 2, (0,), (1,), ((0, TRUE, 0), (0, EVEN, 1)))
SOME_EVEN = (INTEGERS, 2, (0,), (1,), ((0, TRUE, 0), (0, EVEN, 1), (1, TRUE, 1)))


def ring(size, first=0):
    """Steps of a ring over one letter."""
    return tuple((first + k, TRUE, first + (k + 1) % size) for k in range(size))


class Ways(Case):
    def check(self, machine, word):
        runs = naive_words.runs_on(machine, word)
        self.same(ways(machine, word), len(runs))
        self.same(first_run(machine, word), runs[0] if runs else None)

    def test_the_word_without_letters(self):
        for starts, ends, many, run in (
            ((0,), (0,), 1, (0,)), ((0, 1, 2), (1, 2), 2, (1,)), ((0, 2), (1,), 0, None), ((), (0, 1, 2), 0, None),
            ((0, 1, 2), (), 0, None), ((0, 1, 2), (0, 1, 2), 3, (0,)),
        ):
            machine = (INTEGERS, 3, starts, ends, ((0, TRUE, 1),))
            self.same(ways(machine, ()), many)
            self.same(first_run(machine, ()), run)

    def test_several_starts_and_none(self):
        steps = ((0, EVEN, 1), (1, TRUE, 1), (2, ODD, 1), (2, TRUE, 0))
        self.same(ways((INTEGERS, 3, (0, 1, 2), (1,), steps), (4,)), 2)
        self.same(first_run((INTEGERS, 3, (0, 1, 2), (1,), steps), (4,)), (0, 1))
        self.same(ways((INTEGERS, 3, (0, 1, 2), (1,), steps), (3,)), 2)
        self.same(first_run((INTEGERS, 3, (0, 1, 2), (1,), steps), (3,)), (1, 1))
        self.same(ways((INTEGERS, 3, (2,), (0, 1), steps), (3, 4)), 2)
        self.same(first_run((INTEGERS, 3, (2,), (0, 1), steps), (3, 4)), (2, 0, 1))
        self.same((ways((INTEGERS, 3, (), (1,), steps), (4,)), first_run((INTEGERS, 3, (), (1,), steps), (4,))), (0, None))

    def test_two_steps_between_two_states_are_one_run(self):
        for steps in (
            ((0, EVEN, 1), (0, EVEN, 1)), ((0, EVEN, 1), (0, ("<", 9), 1)), ((0, EVEN, 1), (0, TRUE, 1), (0, ("=", 4), 1)),
        ):
            machine = (INTEGERS, 2, (0,), (1,), steps)
            self.same(ways(machine, (4,)), 1)
            self.same(first_run(machine, (4,)), (0, 1))
            self.assertIsNone(two_runs(machine))
            self.same(split_table(machine), ())

    def test_words_of_eight_letters(self):
        dense = (COLOURS, 4, (0, 1, 2, 3), (0, 1, 2, 3), tuple((p, TRUE, q) for p in range(4) for q in range(4)))
        self.same(ways(dense, ("red",) * 8), 4 ** 9)
        self.same(first_run(dense, ("blue",) * 8), (0,) * 9)
        self.same(ways(SOME_EVEN, (2, 3, 4, 5, 6, 7, 8, 10 ** 29)), 5)
        self.same(first_run(SOME_EVEN, (2, 3, 4, 5, 6, 7, 8, 9)), (0,) * 7 + (1, 1))
        self.check(SOME_EVEN, (1, 1, 1, 2, 3, 4, 4, 5))

    def test_the_first_run_by_the_order_of_tuples(self):
        # The least start leads nowhere, and the least state behind a start does not lead on.
        machine = (INTEGERS, 4, (0, 1, 3), (2,), ((0, TRUE, 0), (1, TRUE, 0), (1, TRUE, 3), (3, EVEN, 2), (3, TRUE, 1)))
        self.same(first_run(machine, (1, 2)), (1, 3, 2))
        self.same(first_run(machine, (4,)), (3, 2))
        self.same(first_run(machine, (1, 1, 2)), (3, 1, 3, 2))
        self.assertIsNone(first_run(machine, (2, 1)))

    def test_by_chance(self):
        for chance, machine in naive.drawn(range(200), limit=10 ** 4):
            for length in range(6):
                self.check(machine, chance.word(machine[0], length, chance.choice((2, 5, 10 ** 29))))


class TwoRuns(Case):
    def check(self, machine):
        word = naive_words.two_runs(machine)
        self.same(two_runs(machine), word)
        self.same(split_table(machine), naive_words.split_table(machine))
        self.assertIs(split_closes(machine, split_table(machine)), word is None)
        if word is not None:
            self.assertGreater(ways(machine, word), 1)

    def test_each_way_to_two_runs(self):
        for machine, word in (
            ((INTEGERS, 2, (0, 1), (0, 1), ()), ()),
            ((INTEGERS, 2, (0, 1), (0,), ((0, TRUE, 0), (1, EVEN, 0))), (0,)),
            ((INTEGERS, 2, (0, 1), (0,), ((0, ODD, 0), (1, EVEN, 0))), None),
            ((INTEGERS, 3, (0,), (1, 2), ((0, (">", 2), 1), (0, ("<", 5), 2))), (3,)),
            ((INTEGERS, 3, (0,), (1, 2), ((0, (">", 2), 1), (0, ("<", 3), 2))), None),
            ((INTEGERS, 4, (0,), (3,), ((0, TRUE, 1), (0, TRUE, 2), (1, ("=", 9), 3), (2, ("=", -7), 3), (2, (">", 8), 3))), (0, 9)),
            # The pair is one of a state from which no word is taken.
            ((INTEGERS, 3, (0,), (1,), ((0, TRUE, 1), (0, TRUE, 2), (2, TRUE, 2))), None),
            # No word leads to the state from which a letter leads to two states.
            ((INTEGERS, 3, (0,), (0, 2), ((1, TRUE, 0), (1, TRUE, 2), (0, TRUE, 0))), None),
            # A pair of a state with itself.
            ((INTEGERS, 3, (0,), (2,), ((0, EVEN, 0), (0, EVEN, 1), (0, ODD, 2), (1, ODD, 2))), (0, 1)),
            ((NUMBERED, 2, (0,), (0, 1), ((0, ("second", (">", 3)), 0), (0, ("first", ("is", "blue")), 1))), (("pair", "blue", 4),)),
            ((INTEGERS, 2, (0,), (0, 1), ((0, TRUE, 0), (0, NEVER, 1))), None),
        ):
            self.same(two_runs(machine), word)
            self.check(machine)

    def test_rings_with_a_state_beside_them(self):
        for one, other in itertools.product((1, 2, 3), repeat=2):
            machine = (TICK, one + other, (0, one), (one - 1, one + other - 1), ring(one) + ring(other, one))
            self.check(machine)
        for size in (2, 3):
            for ends in itertools.combinations(range(size + 1), 2):
                for step in ((0, TRUE, size), (size, TRUE, 0), (size - 1, TRUE, size)):
                    self.check((TICK, size + 1, (0,), ends, ring(size) + (step,)))
                    self.check((TICK, size + 1, (0, size), ends, ring(size) + (step,)))
        machine = (TICK, 4, (0, 3), (2, 3), ring(3) + ((3, TRUE, 3),))
        self.same(two_runs(machine), ("a", "a"))
        self.same(split_table(machine), ((0, 3), (1, 3), (2, 3)))

    def test_long_first_words(self):
        # The rings of 2 and 3 states meet at their ends behind five letters.
        machine = (TICK, 5, (0, 2), (1, 4), ring(2) + ring(3, 2))
        self.same(two_runs(machine), ("a",) * 5)
        self.same(len(split_table(machine)), 6)

    def test_pairs_of_equal_states_in_the_table(self):
        self.same(split_table(SOME_EVEN), ((0, 1), (1, 1)))
        machine = (INTEGERS, 3, (0,), (0,), ((0, TRUE, 1), (0, EVEN, 2), (1, TRUE, 1), (2, ODD, 1)))
        self.same(split_table(machine), ((1, 1), (1, 2)))
        self.assertIs(split_closes(machine, split_table(machine)), True)

    def test_one_word_one_run_in_determined_machines(self):
        for seed in range(60):
            chance = Chance(seed, 20, (1, 2, 3, 4))
            machine = chance.machine(chance.kind())
            form = least(machine)
            self.assertIsNone(two_runs(form))
            self.same(split_table(form), ())
            self.assertIs(split_closes(form, ()), True)

    def test_by_chance(self):
        both = []
        for chance, machine in naive.drawn(range(300)):
            self.check(machine)
            both.append(two_runs(machine) is None)
        self.assertGreater(min(both.count(True), both.count(False)), 20)


class SplitCloses(Case):
    def test_order_and_twice(self):
        machine = (TICK, 4, (0, 3), (0,), ring(3) + ((3, TRUE, 3),))
        table = split_table(machine)
        self.same(table, ((0, 3), (1, 3), (2, 3)))
        for told in itertools.permutations(table):
            self.assertIs(split_closes(machine, told), True)
            self.assertIs(split_closes(machine, told + told[:2] + told), True)
            self.assertIs(split_closes(machine, told[:2]), False)
            self.assertIs(split_closes(machine, told[:1] * 5), False)
        self.assertIs(split_closes(machine, ()), False)

    def test_too_many_pairs(self):
        # Pairs that nothing asks for must be complete, too, and not be both ends.
        machine = (INTEGERS, 4, (0,), (1, 2), ((0, EVEN, 1), (1, TRUE, 1), (2, ODD, 3), (3, ODD, 3)))
        self.assertIs(split_closes(machine, ()), True)
        self.assertIs(split_closes(machine, ((0, 0),)), False)
        self.assertIs(split_closes(machine, ((0, 3),)), True)
        self.assertIs(split_closes(machine, ((3, 3), (0, 3), (1, 3))), True)
        self.assertIs(split_closes(machine, ((0, 3), (1, 3), (1, 2))), False)
        self.assertIs(split_closes(machine, ((0, 2),)), True)
        self.assertIs(split_closes(machine, ((1, 1),)), False)
        self.assertIs(split_closes(machine, ((2, 3), (3, 3))), True)
        self.assertIs(split_closes(machine, ((2, 3),)), False)
        self.assertIs(split_closes(machine, ((1, 2),)), False)

    def test_by_chance(self):
        seen = []
        for chance, machine in naive.drawn(range(300)):
            table = list(split_table(machine))
            pairs = [(p, q) for p in range(machine[1]) for q in range(p, machine[1])]
            for _ in range(4):
                told = list(table)
                if told and chance.random() < 0.4:
                    told.pop(chance.randrange(len(told)))
                if chance.random() < 0.5:
                    told += chance.sample(pairs, chance.randint(0, len(pairs)))
                chance.shuffle(told)
                found = split_closes(machine, tuple(told))
                self.assertIs(found, naive_words.split_closes(machine, told))
                if found:
                    self.assertIsNone(two_runs(machine))
                seen.append(found)
        self.assertGreater(min(seen.count(True), seen.count(False)), 100)


class PassedOn(Case):
    def test_returned_machines(self):
        for seed in range(60):
            chance = Chance(seed, 20, (1, 2, 3, 4))
            machine = chance.machine(chance.kind())
            other = one_takes(machine, determined(machine)) if determined(machine)[1] <= 12 else backwards(machine)
            word = two_runs(other)
            self.assertIs(split_closes(other, split_table(other)), word is None)
            if word is not None:
                run = first_run(other, word)
                self.assertGreater(ways(other, word), 1)
                self.assertEqual((len(run), run[0] in other[2], run[-1] in other[3]), (len(word) + 1, True, True))
                self.assertIs(takes(other, word), True)

    def test_machines_of_sixteen_states(self):
        big = one_takes(one_takes(SOME_EVEN, LAST_EVEN), one_takes(SOME_EVEN, LAST_EVEN))
        big = one_takes(big, big)
        self.assertEqual(big[1], 16)
        self.same((ways(big, (2,)), first_run(big, (2,)), two_runs(big)), (8, (0, 1), (0,)))
        self.assertIs(split_closes(big, split_table(big)), False)
        self.assertIsNone(compare(big, SOME_EVEN))

    def test_the_same_question_has_the_same_answer(self):
        machines = [machine for chance, machine in naive.drawn(range(40))]
        before = [(two_runs(one), split_table(one), ways(one, ()), first_run(one, ())) for one in machines]
        after = [(two_runs(one), split_table(one), ways(one, ()), first_run(one, ())) for one in machines[::-1]][::-1]
        self.same(after, before)


if __name__ == "__main__":
    unittest.main()

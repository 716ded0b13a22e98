"""Growth: [140], [141] and the interface of growth.py."""

import math
import unittest

from guardwords.comparing import within
from guardwords.counting import count
from guardwords.forms import determined, first_words, least
from guardwords.growth import degree, doubling
from guardwords.joining import followed, one_takes, repeated
from guardwords.machines import takes
from guardwords.runs import two_runs
from tests import naive, naive_languages, naive_words
from tests.support import COLOURS, INTEGERS, Case, Chance

EVEN = ("mod", 2, 0)
TRUE = ("true",)
NEVER = ("and", EVEN, ("mod", 4, 1))
TICK = ("names", ("a",))
AB = ("names", ("a", "b"))
ABC = ("names", ("a", "b", "c"))
SOME = ("names", ("p", "q", "r", "s"))


def ring(many, ends=(0,)):
    """A machine over one letter that goes round."""
    return (TICK, many, (0,), ends, tuple((k, TRUE, (k + 1) % many) for k in range(many)))


def sorted_words(many):
    """The words over names p, q, r, s, as many of them, in which the names stand in their order, none left out."""
    steps = [(k, ("is", SOME[1][k]), k) for k in range(many)] + [(k, ("is", SOME[1][k + 1]), k + 1) for k in range(many - 1)]
    return (SOME, many, (0,), tuple(range(many)), tuple(steps))


def grown(machine, lengths):
    """The numbers of words of the lengths up to the greatest one, None where there are endlessly many letters on the way."""
    letters = naive.letters_of_all(machine)
    counts, found = {machine[2]: 1}, []
    for _ in range(max(lengths) + 1):
        found.append(sum(many for states, many in counts.items() if naive.ended(machine, states)))
        longer = {}
        for states, many in counts.items():
            for letter in letters:
                told = naive.behind(machine, states, letter)
                longer[told] = longer.get(told, 0) + many
        counts = longer
    return [found[length] for length in lengths]


def degree_by_numbers(machine):
    """The degree of a machine over names, guessed from how many words of great lengths there are."""
    early, late = range(240, 252), range(480, 492)
    numbers = grown(machine, [*early, *late])
    before, behind = max(numbers[:12]), max(numbers[12:])
    if behind == 0:
        return 0
    steps = math.log2(behind) - math.log2(before)
    return round(steps) if steps < 12 else None


class Degree(Case):
    def test_degrees(self):
        for many in (1, 2, 3, 4):
            self.same(degree(sorted_words(many)), many - 1)
            self.assertIsNone(doubling(sorted_words(many)))
        for machine, wanted in (
            (ring(1), 0), (ring(7, (2, 5)), 0), ((INTEGERS, 1, (0,), (0,), ()), 0), ((INTEGERS, 2, (0,), (1,), ((0, NEVER, 1),)), 0),
            ((INTEGERS, 2, (0,), (1,), ((0, ("=", 4), 1), (1, ("=", -4), 0))), 0), ((AB, 1, (), (), ()), 0),
            ((AB, 2, (0,), (1,), ((0, TRUE, 1),)), 0), (one_takes(ring(2), ring(3)), 0),
            ((INTEGERS, 2, (0,), (1,), ((0, ("=", 4), 0), (0, ("and", (">", 0), ("<", 9)), 1), (1, ("=", 5), 1))), 1),
            # Two circles that no word passes both.
            ((AB, 3, (0,), (1, 2), ((0, ("is", "a"), 1), (0, ("is", "b"), 2), (1, ("is", "a"), 1), (2, ("is", "b"), 2))), 0),
            # A circle from which no word is taken, and one to which no word leads.
            ((AB, 4, (0,), (1,), ((0, ("is", "a"), 1), (1, ("is", "a"), 1), (1, ("is", "b"), 2), (2, TRUE, 2), (3, TRUE, 1))), 0),
            # Circles of two states one behind another.
            (followed((AB, 2, (0,), (0,), ((0, ("is", "a"), 1), (1, ("is", "a"), 0))),
                      (AB, 2, (0,), (0,), ((0, ("is", "b"), 1), (1, ("is", "a"), 0)))), 1),
        ):
            self.same(degree(machine), wanted)
            self.assertIsNone(doubling(machine))

    def test_none_for_endlessly_many_words_of_a_length(self):
        for steps, ends in ((((0, EVEN, 1),), (1,)), (((0, ("=", 1), 0), (0, (">", 5), 1)), (1,)), (((0, TRUE, 1), (1, ("=", 1), 1)), (0, 1))):
            machine = (INTEGERS, 2, (0,), ends, steps)
            self.assertIsNone(degree(machine))
            self.assertIsNone(doubling(machine))
        # Endlessly many letters that lead nowhere are no harm.
        self.same(degree((INTEGERS, 3, (0,), (1,), ((0, ("=", 1), 1), (0, TRUE, 2), (1, ("=", 1), 1), (2, TRUE, 2)))), 0)
        self.same(degree((("maybe", INTEGERS), 2, (0,), (0,), ((0, ("none",), 0), (0, ("some", EVEN), 1)))), 0)

    def test_none_for_doubling(self):
        for machine in (
            (AB, 1, (0,), (0,), ((0, TRUE, 0),)), (AB, 2, (0,), (0,), ((0, TRUE, 1), (1, ("is", "b"), 0))),
            (INTEGERS, 1, (0,), (0,), ((0, ("and", (">", 0), ("<", 3)), 0),)),
            repeated(one_takes(followed(ring(2), ring(2)), (TICK, 1, (0,), (0,), ()))),
        ):
            self.same(degree(machine), 0 if machine[0] == TICK else None)
            self.assertEqual(doubling(machine) is None, machine[0] == TICK)
        # Two words lead back, but no word is taken from there.
        machine = (AB, 2, (0,), (0,), ((0, ("is", "a"), 0), (0, ("is", "b"), 1), (1, TRUE, 1)))
        self.same((degree(machine), doubling(machine)), (0, None))

    def test_several_ways_to_one_word(self):
        # Two ways for each letter, but one word of each length.
        machine = (TICK, 2, (0, 1), (0, 1), ((0, TRUE, 0), (0, TRUE, 1), (1, TRUE, 0), (1, TRUE, 1)))
        self.assertIsNotNone(two_runs(machine))
        self.same((degree(machine), doubling(machine)), (0, None))

    def test_by_numbers(self):
        seen = {}
        for seed in range(250):
            chance = Chance(seed)
            machine = chance.machine(chance.choice((AB, ABC, COLOURS, SOME)), many=2)
            found = degree(machine)
            self.same(found, degree_by_numbers(machine))
            seen[found] = seen.get(found, 0) + 1
        self.assertGreater(min(seen[0], seen[1], seen[None]), 5)

    def test_a_degree_exactly_if_it_doubles_nowhere(self):
        for seed in range(150):
            chance = Chance(seed)
            machine = chance.machine(chance.choice((AB, ABC, TICK)), many=2)
            self.assertEqual(degree(machine) is None, doubling(machine) is not None)


class Doubling(Case):
    def wanted(self, machine):
        """The doubling, by going over words of each length from each state back to it."""
        groups = naive_words.Groups(machine)
        words = naive.first_words(machine)
        for state, group in enumerate(groups.groups):
            taken = naive_words.first_from(machine, group[0], True)
            if taken is not None:
                for ways in naive_languages.first_two_ways(groups, state, 2 * len(words) + 2):
                    if len(ways) == 2:
                        return (words[state], ways[0], ways[1], taken)
        return None

    def check(self, machine):
        found = doubling(machine)
        self.same(found, self.wanted(machine))
        if found is not None:
            u, v, w, x = found
            self.assertEqual((len(v), v != w), (len(w), True))
            for middle in ((), v, w, v + w, w + v, v + v + w, w + w + v + v):
                self.assertIs(takes(machine, u + middle + x), True)
        return found

    def test_the_first_state_and_the_least_length(self):
        for machine, wanted in (
            ((AB, 1, (0,), (0,), ((0, TRUE, 0),)), ((), ("a",), ("b",), ())),
            ((AB, 2, (0,), (1,), ((0, TRUE, 1), (1, ("is", "b"), 0))), ((), ("a", "b"), ("b", "b"), ("a",))),
            ((INTEGERS, 2, (0,), (1,), ((0, ("=", 5), 1), (1, (">", 7), 1))), ((5,), (8,), (9,), ())),
            ((INTEGERS, 2, (0,), (1,), ((0, ("=", 5), 1), (1, ("=", 7), 1), (1, ("=", -7), 0))),
             ((), (5, 7, 7, -7), (5, -7, 5, -7), (5,))),
            ((AB, 3, (0,), (2,), ((0, ("is", "a"), 1), (1, ("is", "a"), 2), (2, TRUE, 0))),
             ((), ("a", "a", "a"), ("a", "a", "b"), ("a", "a"))),
        ):
            self.same(self.check(machine), wanted)

    def test_circles_of_two_lengths(self):
        # Circles of 2 and 3 letters at one state: two words of 5 letters, or of 6, lead back.
        machine = (TICK, 4, (0,), (0,), ((0, TRUE, 1), (1, TRUE, 0), (1, TRUE, 2), (2, TRUE, 0)))
        self.assertIsNone(self.check(machine))
        machine = (AB, 4, (0,), (0,), ((0, ("is", "a"), 1), (1, ("is", "a"), 0), (1, ("is", "b"), 2), (2, ("is", "a"), 0)))
        self.same(self.check(machine), ((), ("a", "a", "a", "b", "a"), ("a", "b", "a", "a", "a"), ()))

    def test_by_chance(self):
        seen = []
        for chance, machine in naive.drawn(range(200), limit=12):
            seen.append(self.check(machine) is None)
        self.assertGreater(min(seen.count(True), seen.count(False)), 20)
        for seed in range(120):
            chance = Chance(seed)
            self.check(chance.machine(chance.choice((AB, ABC)), many=2))


class PassedOn(Case):
    def test_returned_machines(self):
        for seed in range(60):
            chance = Chance(seed, 20, (1, 2, 3, 4))
            machine = chance.machine(chance.kind())
            for told in (least(machine), determined(machine)):
                if told[1] <= 16:
                    self.same((degree(told), doubling(told)), (degree(machine), doubling(machine)))
            if doubling(machine) is not None:
                self.assertIn(doubling(machine)[0], first_words(machine))

    def test_parts_do_not_grow_faster(self):
        for seed in range(60):
            chance = Chance(seed)
            one, other = chance.machine(AB, many=2), chance.machine(AB, many=2)
            degrees = [degree(machine) for machine in (one, other, one_takes(one, other), followed(one, other))]
            if None not in degrees:
                self.assertEqual(degrees[2], max(degrees[:2]))
                self.assertLessEqual(degrees[3], degrees[0] + degrees[1] + 1)
            if within(one, other) is None and None not in degrees:
                self.assertLessEqual(degrees[0], degrees[1])

    def test_numbers_of_words(self):
        for many in (1, 2, 3, 4):
            numbers = [count(sorted_words(many), length) for length in range(13)]
            self.same(numbers, [sum(math.comb(length, k) for k in range(many)) for length in range(13)])

    def test_the_same_question_has_the_same_answer(self):
        machines = [machine for chance, machine in naive.drawn(range(40))]
        before = [(degree(one), doubling(one)) for one in machines]
        after = [(degree(one), doubling(one)) for one in machines[::-1]][::-1]
        self.same(after, before)


if __name__ == "__main__":
    unittest.main()

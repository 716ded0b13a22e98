"""Counting and ordering words: [130], [131] and the interface of counting.py."""

import unittest

from guardwords.counting import count, first_of_length, is_endless, lengths, next_word, word_at, words, words_before
from guardwords.forms import determined, first_words, least
from guardwords.joining import backwards, followed, not_taken, one_takes
from guardwords.letters import words_compared
from guardwords.machines import first_word, takes
from guardwords.sets import holds, letters_of, size
from tests import naive, naive_languages
from tests.support import COLOURS, INTEGERS, NUMBERED, Case, Chance, in_one_form, letters_near

EVEN = ("mod", 2, 0)
ODD = ("not", EVEN)
TRUE = ("true",)
NEVER = ("and", EVEN, ("mod", 4, 1))
SMALL = ("and", (">", -3), ("<", 4))
TICK = ("names", ("a",))
AB = ("names", ("a", "b"))
LAST_EVEN = (INTEGERS, 2, (0,), (1,), ((0, TRUE, 0), (0, EVEN, 1)))
NOTHING = (INTEGERS, 2, (0,), (1,), ((0, EVEN, 0), (0, NEVER, 1)))
ALL_AB = (AB, 1, (0,), (0,), ((0, TRUE, 0),))
SMALL_WORDS = (INTEGERS, 1, (0,), (0,), ((0, SMALL, 0),))


def ring(many, ends=(0,)):
    """A machine over one letter that goes round."""
    return (TICK, many, (0,), ends, tuple((k, TRUE, (k + 1) % many) for k in range(many)))


def drawn(seeds, limit=12, most=2):
    """Machines over kinds of which few letters stand for all, some with few letters only."""
    for chance, machine in naive.drawn(seeds, limit=limit, most=most):
        yield chance, machine
    for seed in seeds:
        chance = Chance(seed, 2, (1, 2))
        kind = chance.choice((AB, INTEGERS, NUMBERED, ("maybe", INTEGERS)))
        few = {AB: TRUE, INTEGERS: SMALL, NUMBERED: ("second", SMALL), ("maybe", INTEGERS): ("or", ("none",), ("some", ("=", 1)))}
        kind, many, starts, ends, steps = chance.machine(kind, many=2)
        yield chance, (kind, many, starts, ends, tuple((p, ("and", c, few[kind]), q) for p, c, q in steps))


class Count(Case):
    def test_lengths_0_and_12(self):
        self.same((count(ALL_AB, 0), count(ALL_AB, 12), count(SMALL_WORDS, 12)), (1, 2 ** 12, 6 ** 12))
        self.same((count(LAST_EVEN, 0), count(LAST_EVEN, 12), count(NOTHING, 0), count(NOTHING, 12)), (0, None, 0, 0))
        self.same((count(ring(12), 12), count(ring(12), 11), count(ring(5), 0)), (1, 0, 1))

    def test_endlessly_many_letters_that_lead_nowhere(self):
        # Endlessly many letters lead to state 1, from which nothing of the length that is left is taken.
        machine = (INTEGERS, 4, (0,), (3,), ((0, TRUE, 1), (1, ("=", 1), 2), (2, ("=", 2), 2), (0, ("=", 0), 3), (3, ("=", 1), 3)))
        self.same([count(machine, length) for length in range(5)], [0, 1, 1, 1, 1])
        machine = (INTEGERS, 3, (0,), (0, 2), ((0, ("=", 5), 0), (0, TRUE, 1), (1, TRUE, 1), (1, NEVER, 2)))
        self.same([count(machine, length) for length in range(4)], [1, 1, 1, 1])
        machine = (INTEGERS, 3, (0,), (2,), ((0, TRUE, 1), (1, ("<", 0), 2)))
        self.same([count(machine, length) for length in range(4)], [0, 0, None, 0])
        machine = (INTEGERS, 3, (0,), (2,), ((0, SMALL, 1), (1, ("in", letters_of(INTEGERS, SMALL)), 2)))
        self.same([count(machine, length) for length in range(4)], [0, 0, 36, 0])

    def test_several_ways_to_one_word(self):
        machine = (INTEGERS, 3, (0, 1, 2), (0, 1, 2), tuple((p, SMALL, q) for p in range(3) for q in range(2)))
        self.same([count(machine, length) for length in range(4)], [1, 6, 36, 216])
        machine = (INTEGERS, 2, (0,), (1,), ((0, ("=", 3), 1), (0, ("=", 3), 1), (0, SMALL, 1), (0, (">", 2), 0)))
        self.same([count(machine, length) for length in range(2)], [0, 6])

    def test_other_kinds(self):
        machine = (NUMBERED, 2, (0,), (1,), ((0, ("second", SMALL), 0), (0, ("first", ("is", "red")), 1)))
        self.same(count(machine, 1), None)
        machine = (NUMBERED, 2, (0,), (1,), ((0, ("second", SMALL), 0), (0, ("and", ("first", ("is", "red")), ("second", SMALL)), 1)))
        self.same([count(machine, length) for length in range(4)], [0, 6, 72, 864])

    def test_by_chance(self):
        found = []
        for chance, machine in drawn(range(120)):
            for length in range(5):
                many = count(machine, length)
                self.same(many, naive_languages.count(machine, length))
                found.append(many)
            self.assertIs(is_endless(machine), naive_languages.is_endless(machine))
        self.assertGreater(found.count(None), 50)
        self.assertGreater(len(set(found)), 10)


class Endless(Case):
    def test_each_way(self):
        for machine, wanted in (
            (LAST_EVEN, True), (NOTHING, False), (ALL_AB, True), (ring(3), True), ((INTEGERS, 1, (0,), (0,), ()), False),
            ((INTEGERS, 2, (0,), (1,), ((0, EVEN, 1),)), True), ((INTEGERS, 2, (0,), (1,), ((0, SMALL, 1),)), False),
            ((INTEGERS, 2, (0,), (1,), ((0, SMALL, 1), (1, ("=", 2), 0))), True),
            ((INTEGERS, 2, (0,), (0,), ((0, TRUE, 1), (1, TRUE, 1))), False),
            ((INTEGERS, 3, (0,), (2,), ((0, SMALL, 2), (1, TRUE, 1), (1, TRUE, 2))), False),
            ((INTEGERS, 3, (0,), (2,), ((0, SMALL, 1), (1, NEVER, 1), (1, SMALL, 2))), False),
            ((INTEGERS, 3, (0,), (2,), ((0, SMALL, 1), (1, SMALL, 1), (1, SMALL, 2))), True),
            ((INTEGERS, 1, (), (0,), ((0, TRUE, 0),)), False), ((INTEGERS, 1, (0,), (), ((0, TRUE, 0),)), False),
        ):
            self.assertIs(is_endless(machine), wanted)
            self.assertIs(naive_languages.is_endless(machine), wanted)


class Lengths(Case):
    def check(self, machine):
        truths, start = naive_languages.length_truths(machine)
        period = len(truths) - start

        def taken(number):
            return number >= 0 and truths[number if number < start else start + (number - start) % period]

        self.same(lengths(machine), in_one_form(INTEGERS, taken, start, period))

    def test_none_some_and_all_but_a_few(self):
        for machine, wanted in (
            (NOTHING, ("false",)), (ALL_AB, (">", -1)), (LAST_EVEN, (">", 0)), ((INTEGERS, 1, (0,), (0,), ()), ("=", 0)),
            ((INTEGERS, 4, (0,), (1, 3), ((0, TRUE, 1), (1, ODD, 2), (2, EVEN, 3))), ("or", ("=", 1), ("=", 3))),
            ((INTEGERS, 4, (0,), (3,), ((0, TRUE, 1), (1, ODD, 2), (2, EVEN, 3), (3, SMALL, 3))), (">", 2)),
            ((INTEGERS, 2, (0,), (1,), ((0, TRUE, 1), (1, NEVER, 0))), ("=", 1)),
            (ring(2), ("and", EVEN, (">", -1))), (ring(3, (0, 1, 2)), (">", -1)),
            (not_taken((AB, 3, (0,), (2,), ((0, ("is", "b"), 1), (1, TRUE, 2)))), (">", -1)),
            (not_taken((AB, 3, (0,), (2,), ((0, TRUE, 1), (1, TRUE, 2)))), ("and", (">", -1), ("not", ("=", 2)))),
        ):
            self.same(lengths(machine), letters_of(INTEGERS, wanted))
            self.check(machine)

    def test_rings_joined(self):
        two, three, four, five = (ring(many) for many in (2, 3, 4, 5))
        for machine in (
            one_takes(two, three), one_takes(three, four), one_takes(four, five), one_takes(one_takes(two, three), five),
            one_takes(one_takes(three, four), five), one_takes(ring(4, (1, 3)), ring(2)), one_takes(ring(4, (2,)), ring(4, (0,))),
            followed(three, five), followed(ring(4, (1,)), ring(4, (2,))), followed((TICK, 2, (0,), (1,), ((0, TRUE, 1),)), four),
        ):
            self.check(machine)
        found = lengths(one_takes(one_takes(three, four), five))
        self.assertEqual((found[1], found[2], found[3][0], len(found[3][1])), ((-1, (False,)), (), 0, 60))
        self.same(found[3][1][:7], (True, False, False, True, True, True, True))
        self.assertIs(holds(INTEGERS, found, 10 ** 29), True)
        self.assertIs(holds(INTEGERS, found, 60 * 10 ** 20 + 1), False)
        self.same(lengths(followed(three, five))[3], (8, (True,)))

    def test_by_chance(self):
        for chance, machine in naive.drawn(range(200)):
            self.check(machine)

    def test_as_a_letter_set(self):
        # What is returned is passed to functions that take letter sets.
        self.assertIsNone(size(INTEGERS, lengths(LAST_EVEN)))
        self.same(size(INTEGERS, lengths((INTEGERS, 3, (0,), (1, 2), ((0, TRUE, 1), (1, TRUE, 2))))), 2)
        machine = (INTEGERS, 2, (0,), (1,), ((0, ("in", lengths(ring(4))), 1),))
        self.same([takes(machine, (k,)) for k in (-4, 0, 2, 4)], [False, True, False, True])


class FirstOfLength(Case):
    def test_edges(self):
        self.same(first_of_length(LAST_EVEN, 0), None)
        self.same(first_of_length(ALL_AB, 0), ())
        self.same(first_of_length(ALL_AB, 20), ("a",) * 20)
        self.same(first_of_length(ring(20), 20), ("a",) * 20)
        self.same(first_of_length(ring(3), 20), None)
        self.same(first_of_length((INTEGERS, 2, (0,), (1,), ((0, TRUE, 0), (0, ("<", -5), 1))), 20), (0,) * 19 + (-6,))
        self.same(first_of_length(NOTHING, 20), None)
        # The first letters do not lead on to the length.
        machine = (INTEGERS, 4, (0,), (3,), ((0, TRUE, 1), (0, ("=", 9), 2), (2, ("=", -3), 3), (3, ("=", 2), 3), (1, NEVER, 3)))
        self.same([first_of_length(machine, k) for k in range(5)], [None, None, (9, -3), (9, -3, 2), (9, -3, 2, 2)])

    def test_by_chance(self):
        for chance, machine in naive.drawn(range(150)):
            for length in (0, 1, 2, 3, 7, 20):
                self.same(first_of_length(machine, length), naive_languages.first_of_length(machine, length))


class Ordered(Case):
    def test_languages_with_exactly_k_words(self):
        for many in (1, 2, 5, 40, 41):
            letters = letters_of(INTEGERS, ("and", (">", 0), ("<", many)))
            machine = (INTEGERS, 2, (0,), (0, 1), ((0, ("in", letters), 1),))
            self.same(tuple(words(machine, many=40)), tuple([()] + [(k,) for k in range(1, many)])[:40])
            for k in (0, many - 1, many, 40):
                if k <= 40:
                    self.same(word_at(machine, k), None if k >= many else (k,) if k else ())
        self.same((word_at(NOTHING, 0), word_at(NOTHING, 40), tuple(words(NOTHING))), (None, None, ()))

    def test_words_behind_endlessly_many_others(self):
        machine = (INTEGERS, 3, (0,), (1,), ((0, EVEN, 1), (0, ("=", 1), 2), (2, ("=", 1), 1)))
        self.same((word_at(machine, 0), word_at(machine, 40)), ((0,), (-40,)))
        self.same(words_before(machine, (1, 1)), None)
        self.same(words_before(machine, (40,)), 39)
        self.same(next_word(machine, (1, 0)), (1, 1))
        self.assertIsNone(next_word(machine, (1, 1)))
        pairs = (NUMBERED, 2, (0,), (1,), ((0, TRUE, 1),))
        self.same(word_at(pairs, 40), (("pair", "red", -20),))
        self.same(words_before(pairs, (("pair", "blue", 0),)), None)
        self.same(words_before(pairs, (("pair", "red", 1000),)), 1999)
        self.same(next_word(pairs, (("pair", "blue", 0),)), (("pair", "blue", 1),))

    def test_over_lengths(self):
        # Words of a length of which there are none are left out, as many as there may be.
        far = one_takes(ring(15), (TICK, 1, (0,), (0,), ()))
        self.same(tuple(words(far, many=3)), ((), ("a",) * 15, ("a",) * 30))
        self.same(next_word(far, ("a",)), ("a",) * 15)
        self.same(next_word(far, ("a",) * 8), ("a",) * 15)
        self.same(words_before(far, ("a",) * 8), 1)
        self.same(words_before(far, ("a",) * 31), 3)

    def test_number_40(self):
        self.same(word_at(ALL_AB, 40), ("a", "b", "a", "a", "b"))
        self.same(words_before(ALL_AB, word_at(ALL_AB, 40)), 40)
        self.same(word_at(LAST_EVEN, 40), (-40,))
        self.same(word_at(SMALL_WORDS, 40), (3, 2))
        self.same(word_at((INTEGERS, 1, (0,), (0,), ()), 40), None)

    def test_words_that_are_not_taken(self):
        self.same(next_word(LAST_EVEN, ()), (0,))
        self.same(next_word(LAST_EVEN, (0,)), (2,))
        self.same(next_word(LAST_EVEN, (1,)), (2,))
        self.same(next_word(LAST_EVEN, (2, -999)), (2, 1000))
        self.same(next_word(LAST_EVEN, (2, 1000)), (2, -1000))
        self.same(next_word(LAST_EVEN, (1000, -1000)), (1000, 1002))
        self.same(next_word(SMALL_WORDS, (3,)), (0, 0))
        self.same(next_word(SMALL_WORDS, (0, 1000)), (1, 0))
        self.same(next_word(SMALL_WORDS, (1000, 0)), (0, 0, 0))
        self.same(words_before(LAST_EVEN, ()), 0)
        self.same(words_before(LAST_EVEN, (1000,)), 999)
        self.same(words_before(LAST_EVEN, (-1000,)), 1000)
        self.same(words_before(LAST_EVEN, (0, 0)), None)
        self.same(words_before(SMALL_WORDS, (-1000, 1000)), 1 + 6 + 36)
        self.same(words_before(SMALL_WORDS, (1000, -1000, 3)), 1 + 6 + 36 + 216)
        self.same(words_before(SMALL_WORDS, (2, 2, 3)), 1 + 6 + 36 + 3 * 36 + 3 * 6 + 5)
        self.same(next_word(NOTHING, (5, 6)), None)
        self.same(words_before(NOTHING, (1000,) * 8), 0)

    def test_next_word_by_chance(self):
        for chance, machine in drawn(range(120)):
            for length in (0, 1, 1, 2, 2):
                word = chance.word(machine[0], length, chance.choice((2, 4, 7)))
                self.same(next_word(machine, word), naive_languages.next_word(machine, word))
                self.same(words_before(machine, word), naive_languages.words_before(machine, word))

    def test_the_four_fit_together(self):
        for seed in range(80):
            chance = Chance(seed, 20, (1, 2, 3, 4))
            machine = chance.machine(chance.kind())
            found = tuple(words(machine, many=12))
            self.same(found[0] if found else None, first_word(machine))
            for k, word in enumerate(found):
                self.assertIs(takes(machine, word), True)
                self.same(word_at(machine, k), word)
                self.same(words_before(machine, word), k)
                self.same(next_word(machine, word), word_at(machine, k + 1))
            for one, other in zip(found, found[1:]):
                self.same(words_compared(machine[0], one, other), -1)
            if len(found) < 12:
                self.assertIsNone(word_at(machine, len(found)))
                self.assertIs(is_endless(machine), False)


class Generators(Case):
    def test_many(self):
        self.same(tuple(words(ALL_AB, many=0)), ())
        self.assertEqual(len(tuple(words(ALL_AB))), 10)
        self.same(tuple(words(ALL_AB)), tuple(words(ALL_AB, many=40))[:10])
        self.same(tuple(words(ALL_AB, many=40)), tuple(word_at(ALL_AB, k) for k in range(40)))
        self.same(tuple(words(NOTHING, many=40)), ())

    def test_it_is_a_generator(self):
        told = words(LAST_EVEN)
        self.assertIs(iter(told), told)
        self.same(next(told), (0,))
        self.same(next(told), (2,))
        with self.assertRaises(TypeError):
            words(LAST_EVEN, 5)

    def test_two_at_once_in_turn(self):
        one, other = words(LAST_EVEN, many=20), words(ALL_AB, many=20)
        third = words(LAST_EVEN, many=20)
        turns = [(next(one), next(other), next(third)) for _ in range(20)]
        self.same([told[0] for told in turns], list(words(LAST_EVEN, many=20)))
        self.same([told[1] for told in turns], list(words(ALL_AB, many=20)))
        self.same([told[2] for told in turns], list(words(LAST_EVEN, many=20)))
        self.assertEqual((list(one), list(other)), ([], []))

    def test_one_that_is_left(self):
        left = words(LAST_EVEN, many=40)
        self.same(next(left), (0,))
        self.same(tuple(words(LAST_EVEN, many=3)), ((0,), (2,), (-2,)))
        self.same(next(left), (2,))
        left.close()
        self.same(word_at(LAST_EVEN, 2), (-2,))


class PassedOn(Case):
    def answers(self, machine):
        return (
            [count(machine, length) for length in (0, 1, 2, 12)], is_endless(machine), lengths(machine),
            first_of_length(machine, 20), word_at(machine, 7), tuple(words(machine, many=5)),
            next_word(machine, ()), words_before(machine, tuple(letters_near(machine[0], 2)[:2])),
        )

    def test_returned_machines(self):
        for seed in range(60):
            chance = Chance(seed, 20, (1, 2, 3, 4))
            machine = chance.machine(chance.kind())
            for told in (least(machine), determined(machine), backwards(backwards(machine))):
                if told[1] <= 16:
                    self.same(self.answers(told), self.answers(machine))

    def test_returned_words(self):
        # Words that were returned may be longer than those that are passed by themselves.
        far = ring(16, (15,))
        word = first_words(far)[-1]
        self.assertEqual(len(word), 15)
        self.same(next_word(far, word), ("a",) * 31)
        self.same(words_before(far, next_word(far, word)), 1)
        word = first_of_length(LAST_EVEN, 20)
        self.same(next_word(LAST_EVEN, word), (0,) * 19 + (2,))
        self.same(words_before(SMALL_WORDS, first_of_length(SMALL_WORDS, 20)), sum(6 ** k for k in range(20)))

    def test_the_same_question_has_the_same_answer(self):
        machines = [machine for chance, machine in naive.drawn(range(40))]
        before = [self.answers(one) for one in machines]
        after = [self.answers(one) for one in machines[::-1]][::-1]
        self.same(after, before)


if __name__ == "__main__":
    unittest.main()

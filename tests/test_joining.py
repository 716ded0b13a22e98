"""Joined machines: [100] and the interface of joining.py."""

import unittest

from guardwords.comparing import compare, within
from guardwords.errors import OtherKinds
from guardwords.forms import determined, least
from guardwords.joining import backwards, both_take, followed, not_taken, one_takes, repeated
from guardwords.machines import check_machine, first_word, takes
from tests import naive, naive_words
from tests.support import COLOURS, INTEGERS, NUMBERED, Case, Chance

EVEN = ("mod", 2, 0)
ODD = ("not", EVEN)
TRUE = ("true",)
NEVER = ("and", EVEN, ("mod", 4, 1))
BIG = 10 ** 29
LAST_EVEN = (INTEGERS, 2, (0,), (1,), ((0, TRUE, 0), (0, EVEN, 1)))
PARITY = (INTEGERS, 2, (0,), (0,), ((0, EVEN, 0), (0, ODD, 1), (1, EVEN, 1), (1, ODD, 0)))
ONE_EVEN = (INTEGERS, 2, (0,), (1,), ((0, EVEN, 1),))
NOTHING = (INTEGERS, 2, (0,), (1,), ((0, EVEN, 0), (0, NEVER, 1)))
ONLY_EMPTY = (INTEGERS, 1, (0,), (0,), ())
ALL = (INTEGERS, 1, (0,), (0,), ((0, TRUE, 0),))
EDGES = (
    NOTHING, ONLY_EMPTY, ALL, ONE_EVEN, LAST_EVEN, PARITY, (INTEGERS, 1, (), (0,), ((0, TRUE, 0),)),
    (INTEGERS, 2, (0, 1), (), ((0, TRUE, 1),)), (INTEGERS, 3, (0, 2), (0, 1, 2), ()),
    (INTEGERS, 3, (0, 2), (0, 1), ((0, ("<", 0), 1), (1, ("=", 2), 1), (2, EVEN, 1), (2, EVEN, 1), (1, TRUE, 0))),
    (INTEGERS, 4, (1, 3), (0, 3), ((1, ("=", 1), 0), (0, TRUE, 2), (2, ("=", -2), 3), (3, ODD, 1))),
)
TWO = {"both_take": both_take, "one_takes": one_takes, "followed": followed}
ONE = {"not_taken": not_taken, "repeated": repeated, "backwards": backwards}
BOUNDS = {
    "both_take": lambda n, m: n * m, "one_takes": lambda n, m: n + m, "followed": lambda n, m: n + m,
    "not_taken": lambda n: 2 ** n, "repeated": lambda n: n + 1, "backwards": lambda n: n,
}


def in_joined(name, first, second, word):
    """Whether the joined machine takes the word, by the words of [100]."""
    one, other = naive.taken(first, word), naive.taken(second, word)
    if name == "both_take":
        return one and other
    if name == "one_takes":
        return one or other
    return any(naive.taken(first, word[:k]) and naive.taken(second, word[k:]) for k in range(len(word) + 1))


def in_changed(name, machine, word):
    if name == "not_taken":
        return not naive.taken(machine, word)
    if name == "backwards":
        return naive.taken(machine, word[::-1])
    return word == () or any(
        naive.taken(machine, word[:k]) and in_changed(name, machine, word[k:]) for k in range(1, len(word) + 1))


def letters_for(*machines, most=7):
    """Some letters, spread over all that stand for all letters."""
    letters = naive.letters_of_all(*machines)
    return letters[:3] + letters[3::max(1, len(letters) // (most - 2))]


class Joined(Case):
    def well_formed(self, name, found, *machines):
        kind, many, starts, ends, steps = found
        self.assertIsNone(check_machine(found))
        self.assertEqual(kind, machines[0][0])
        self.assertTrue(1 <= many <= BOUNDS[name](*[machine[1] for machine in machines]), name)
        for states in (starts, ends):
            self.assertEqual(list(states), sorted(set(states)))
            self.assertTrue(all(0 <= state < many for state in states))
        self.assertTrue(all(0 <= p < many and 0 <= q < many for p, _, q in steps))

    def check_two(self, first, second, words):
        for name, call in TWO.items():
            found = call(first, second)
            self.well_formed(name, found, first, second)
            for word in words:
                self.assertIs(takes(found, word), in_joined(name, first, second, word), (name, first, second, word))

    def check_one(self, machine, words):
        for name, call in ONE.items():
            found = call(machine)
            self.well_formed(name, found, machine)
            for word in words:
                self.assertIs(takes(found, word), in_changed(name, machine, word), (name, machine, word))


class Words(Joined):
    def test_all_words_up_to_four_letters(self):
        for first in EDGES:
            letters = letters_for(*EDGES, most=4)
            words = list(naive_words.words_up_to(letters, 4))
            self.check_one(first, words[::3] + words[:40])
            for second in EDGES:
                self.check_two(first, second, words[::11] + words[:8])

    def test_by_chance(self):
        for chance, first in naive.drawn(range(120)):
            second = chance.machine(first[0])
            letters = letters_for(first, second, most=5)
            words = list(naive_words.words_up_to(letters, 4))
            words = words[:30] + chance.sample(words, min(len(words), 60))
            words += [chance.word(first[0], chance.randint(1, 6), BIG) for _ in range(5)]
            self.check_two(first, second, words)
            self.check_one(first, words)

    def test_all_kinds(self):
        for seed in range(80):
            chance = Chance(seed, 20, (1, 2, 3, 4))
            first = chance.machine(chance.kind())
            second = chance.machine(first[0])
            words = [chance.word(first[0], chance.randint(0, 5), chance.choice((3, 25, BIG))) for _ in range(25)]
            self.check_two(first, second, words)
            self.check_one(first, words)

    def test_the_word_without_letters(self):
        for first in EDGES:
            for second in EDGES:
                empties = (naive.taken(first, ()), naive.taken(second, ()))
                self.assertIs(takes(both_take(first, second), ()), all(empties))
                self.assertIs(takes(one_takes(first, second), ()), any(empties))
                self.assertIs(takes(followed(first, second), ()), all(empties))
            self.assertIs(takes(repeated(first), ()), True)
            self.assertIs(takes(not_taken(first), ()), not naive.taken(first, ()))
            self.assertIs(takes(backwards(first), ()), naive.taken(first, ()))

    def test_first_words(self):
        self.same(first_word(both_take(LAST_EVEN, not_taken(PARITY))), (1, 0))
        self.same(first_word(not_taken(one_takes(PARITY, LAST_EVEN))), (1,))
        self.same(first_word(followed(followed(ONE_EVEN, ONE_EVEN), LAST_EVEN)), (0, 0, 0))
        self.same(first_word(both_take(repeated(followed(ONE_EVEN, ONE_EVEN)), not_taken(ONLY_EMPTY))), (0, 0))
        self.assertIsNone(first_word(both_take(PARITY, not_taken(PARITY))))
        self.assertIsNone(first_word(followed(NOTHING, ALL)))
        self.assertIsNone(first_word(followed(ALL, NOTHING)))
        self.assertIsNone(first_word(not_taken(ALL)))
        self.same(first_word(not_taken(NOTHING)), ())

    def test_a_machine_without_steps_keeps_a_state(self):
        empty = (INTEGERS, 1, (), (), ())
        for found in (both_take(empty, empty), one_takes(empty, empty), followed(empty, empty), not_taken(empty),
                      repeated(empty), backwards(empty), both_take(NOTHING, ALL)):
            self.assertGreaterEqual(found[1], 1)
        self.assertIsNone(compare(not_taken(empty), ALL))


class Bounds(Joined):
    def test_machines_of_four_states(self):
        # The fourth letter from the end is even: a determined machine has 16 states.
        last = (INTEGERS, 4, (0,), (3,), ((0, TRUE, 0), (0, EVEN, 1), (1, TRUE, 2), (2, TRUE, 3)))
        dense = (INTEGERS, 4, (0, 1, 2, 3), (1, 3), tuple((p, (">", p), (p + k) % 4) for p in range(4) for k in (1, 2)))
        crossing = (INTEGERS, 4, (0,), (3,), ((0, TRUE, 1), (1, TRUE, 2), (2, TRUE, 3), (3, TRUE, 0), (3, EVEN, 1)))
        for machine in (last, dense, crossing):
            for name, call in ONE.items():
                self.well_formed(name, call(machine), machine)
            for other in (last, dense, crossing):
                for name, call in TWO.items():
                    self.well_formed(name, call(machine, other), machine, other)

    def test_rings_need_all_their_pairs(self):
        tick = ("names", ("a",))

        def ring(size):
            return (tick, size, (0,), (0,), tuple((k, TRUE, (k + 1) % size) for k in range(size)))

        both = both_take(ring(3), ring(4))
        self.assertEqual((both[1], least(both)[1]), (12, 12))
        self.assertIs(takes(both, ("a",) * 12), True)
        self.assertIs(takes(both, ("a",) * 6), False)


class Kinds(Case):
    def test_other_kinds(self):
        for one, other in (
            (INTEGERS, COLOURS), (COLOURS, ("names", ("blue", "red"))), (COLOURS, ("names", ("red",))),
            (("maybe", INTEGERS), INTEGERS), (NUMBERED, ("pair", INTEGERS, COLOURS)),
            (("maybe", COLOURS), ("maybe", ("names", ("blue", "red")))),
            (("pair", COLOURS, COLOURS), ("pair", COLOURS, ("names", ("blue", "red")))),
        ):
            for steps in ((), ((0, TRUE, 0),)):
                first, second = (one, 1, (0,), (0,), steps), (other, 1, (0,), (0,), steps)
                for call in TWO.values():
                    with self.refuses(OtherKinds):
                        call(first, second)
                    with self.refuses(OtherKinds):
                        call(second, first)
                    self.assertEqual(call(first, first)[0], one)


class Identities(Case):
    def equal(self, one, other):
        if one[1] <= 16 and other[1] <= 16:
            self.same(least(one), least(other))

    def test_de_morgan(self):
        count = 0
        for chance, one in naive.drawn(range(120), states=3):
            other = chance.machine(one[0], states=3)
            nots = (not_taken(one), not_taken(other))
            if nots[0][1] + nots[1][1] <= 16:
                count += 1
                self.equal(not_taken(both_take(one, other)), one_takes(*nots))
                self.equal(not_taken(one_takes(one, other)), both_take(*nots))
        self.assertGreater(count, 40)

    def test_twice(self):
        for chance, machine in naive.drawn(range(120)):
            self.same(least(backwards(backwards(machine))), least(machine))
            if not_taken(machine)[1] <= 16:
                self.same(least(not_taken(not_taken(machine))), least(machine))
            self.same(least(repeated(repeated(machine))), least(repeated(machine)))
            self.equal(both_take(machine, machine), machine)
            self.equal(one_takes(machine, machine), machine)

    def test_backwards(self):
        for chance, one in naive.drawn(range(100), states=3):
            other = chance.machine(one[0], states=3)
            self.equal(backwards(followed(one, other)), followed(backwards(other), backwards(one)))
            self.equal(backwards(both_take(one, other)), both_take(backwards(one), backwards(other)))
            self.equal(backwards(one_takes(one, other)), one_takes(backwards(one), backwards(other)))
            self.equal(backwards(repeated(one)), repeated(backwards(one)))

    def test_followed(self):
        for chance, one in naive.drawn(range(100), states=3):
            kind = one[0]
            other, third = chance.machine(kind, states=3), chance.machine(kind, states=3)
            only_empty = (kind, 1, (0,), (0,), ())
            nothing = (kind, 1, (0,), (), ((0, TRUE, 0),))
            self.equal(followed(one, only_empty), one)
            self.equal(followed(only_empty, one), one)
            self.equal(followed(one, nothing), nothing)
            self.equal(followed(nothing, one), nothing)
            self.equal(followed(followed(one, other), third), followed(one, followed(other, third)))
            self.equal(followed(one, one_takes(other, third)), one_takes(followed(one, other), followed(one, third)))
            self.equal(repeated(one), one_takes(only_empty, followed(one, repeated(one))))
            self.same(least(repeated(nothing)), least(only_empty))

    def test_within(self):
        for chance, one in naive.drawn(range(100), states=3):
            other = chance.machine(one[0], states=3)
            self.assertIsNone(within(both_take(one, other), one))
            self.assertIsNone(within(other, one_takes(one, other)))
            self.assertIsNone(within(one, repeated(one)))
            if not_taken(other)[1] <= 16:
                self.same(within(one, other), first_word(both_take(one, not_taken(other))))


class PassedOn(Joined):
    def test_returned_machines(self):
        for seed in range(60):
            chance = Chance(seed, 20, (1, 2, 3, 4))
            machine = chance.machine(chance.kind())
            other = chance.machine(machine[0])
            words = [chance.word(machine[0], chance.randint(0, 4), 30) for _ in range(10)]
            for told in (least(machine), determined(machine), both_take(machine, other), followed(machine, other)):
                if told[1] <= 16:
                    self.check_two(told, other, words)
                    self.check_two(other, told, words)
                    for name, call in ONE.items():
                        if name != "not_taken" or told[1] <= 8:
                            self.well_formed(name, call(told), told)
                    self.assertIsNone(compare(one_takes(told, told), told) if told[1] <= 8 else None)

    def test_again_and_again(self):
        machine = ONE_EVEN
        while machine[1] < 16:
            machine = repeated(machine)
        self.assertLess(len(machine[4]), 300)
        self.assertIs(takes(machine, (2, 4, 6)), True)
        self.assertIs(takes(machine, (2, 3)), False)
        machine = ONLY_EMPTY
        while machine[1] < 8:
            machine = followed(machine, ALL)
        self.assertIsNone(compare(machine, ALL))
        for _ in range(40):
            machine = both_take(machine, ALL)
        self.assertIsNone(compare(machine, ALL))

    def test_the_same_question_has_the_same_answer(self):
        machines = [(one, chance.machine(one[0])) for chance, one in naive.drawn(range(40))]

        def answers(one, other):
            return [call(one, other) for call in TWO.values()] + [call(one) for call in ONE.values()]

        before = [answers(*two) for two in machines]
        after = [answers(*two) for two in machines[::-1]][::-1]
        self.same(after, before)


if __name__ == "__main__":
    unittest.main()

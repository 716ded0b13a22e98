"""Words as actions: [120] to [123] and the interface of actions.py."""

import itertools
import unittest

from guardwords.actions import action, actions, context, letter_classes, mergings, reset_word, turning_word
from guardwords.errors import TooMany
from guardwords.forms import determined, first_words, least
from guardwords.joining import followed, one_takes
from guardwords.letters import words_compared
from guardwords.machines import takes
from guardwords.sets import holds, letters_of
from tests import naive, naive_words
from tests.support import COLOURS, INTEGERS, Case, Chance, key, set_of, word_key

EVEN = ("mod", 2, 0)
ODD = ("not", EVEN)
TRUE = ("true",)
BIG = 10 ** 29
TICK = ("names", ("a",))
ABC = ("names", ("a", "b", "c"))
LAST_EVEN = (INTEGERS, 2, (0,), (1,), ((0, TRUE, 0), (0, EVEN, 1)))
PARITY = (INTEGERS, 2, (0,), (0,), ((0, EVEN, 0), (0, ODD, 1), (1, EVEN, 1), (1, ODD, 0)))
GUARDED = (INTEGERS, 2, (0,), (0, 1), ((0, EVEN, 0), (0, ODD, 1), (1, ("not", ("<", 0)), 1)))


def is_not(name):
    return ("not", ("is", name))


SIXTY_TURNING = (ABC, 3, (0,), (1, 2), (
    (2, is_not("c"), 2), (2, ("is", "a"), 2), (1, ("is", "a"), 0), (2, is_not("a"), 1), (0, is_not("a"), 2), (0, ("is", "c"), 0)))
SIXTY_CALM = (ABC, 4, (0,), (3,), (
    (1, ("is", "a"), 1), (3, is_not("a"), 0), (0, ("is", "b"), 0), (3, is_not("a"), 2), (0, TRUE, 2), (2, TRUE, 3)))
MORE_TURNING = (ABC, 3, (0,), (0, 1), (
    (2, is_not("c"), 1), (0, is_not("a"), 2), (1, TRUE, 0), (2, ("is", "b"), 1), (2, ("is", "a"), 2)))
MORE_CALM = (ABC, 3, (0,), (0, 1), (
    (2, ("is", "a"), 0), (1, ("is", "c"), 1), (0, is_not("c"), 1), (2, ("is", "a"), 1), (1, is_not("c"), 2)))


def ring(size, ends=(0,)):
    """A machine over one letter that goes round."""
    return (TICK, size, (0,), ends, tuple((k, TRUE, (k + 1) % size) for k in range(size)))


def exactly(many):
    """A machine that takes the words of exactly so many letters."""
    if many <= 3:
        return (INTEGERS, many + 1, (0,), (many,), tuple((k, TRUE, k + 1) for k in range(many)))
    return followed(exactly(3), exactly(many - 3))


def some_words(chance, machine, many=8):
    letters = naive.letters_of_all(machine)
    short = [tuple(chance.choice(letters) for _ in range(chance.randint(0, 4))) for _ in range(many)]
    return short + [chance.word(machine[0], 3, BIG)]


class Actions(Case):
    def test_the_word_without_letters(self):
        self.same(action(LAST_EVEN, ()), (0, 1))
        self.same(action(GUARDED, ()), (0, 1, 2))
        self.same(action((INTEGERS, 1, (), (), ()), ()), (0,))
        self.same(actions((INTEGERS, 1, (), (), ())), (((), (0,)),))
        self.same(action((INTEGERS, 1, (), (), ()), (4, BIG)), (0,))

    def test_words(self):
        self.same(action(GUARDED, (2,)), (0, 1, 2))
        self.same(action(GUARDED, (-1,)), (1, 2, 2))
        self.same(action(GUARDED, (-1, BIG, BIG + 1)), (1, 2, 2))
        self.same(action(GUARDED, (-BIG,)), (0, 2, 2))
        self.same(actions(PARITY), (((), (0, 1)), ((1,), (1, 0))))
        self.same(actions(ring(3)), (((), (0, 1, 2)), (("a",), (1, 2, 0)), (("a", "a"), (2, 0, 1))))
        self.same(actions(GUARDED), (
            ((), (0, 1, 2)), ((1,), (1, 1, 2)), ((-1,), (1, 2, 2)), ((-2,), (0, 2, 2)), ((1, -1), (2, 2, 2))))

    def test_states_of_the_least_form(self):
        # Two states of the machine are one of the least form, and no word leads to a third one.
        machine = (INTEGERS, 4, (0,), (1, 2), ((0, EVEN, 1), (0, ODD, 2), (1, EVEN, 0), (2, EVEN, 0), (3, TRUE, 3)))
        self.same(action(machine, (2,)), (1, 0, 2))
        self.same(action(machine, (3,)), (1, 2, 2))
        self.assertEqual(len(action(machine, ())), least(machine)[1])

    def test_by_chance(self):
        for chance, machine in naive.drawn(range(120)):
            groups = naive_words.Groups(machine)
            for word in some_words(chance, machine):
                self.same(action(machine, word), groups.action(word))
            wanted = groups.actions()
            if len(wanted) <= 60:
                self.same(actions(machine), tuple((word, told) for told, word in wanted.items()))
            else:
                with self.refuses(TooMany):
                    actions(machine)

    def test_order_of_first_words(self):
        for machine in (SIXTY_TURNING, SIXTY_CALM, GUARDED):
            found = actions(machine)
            self.same(found[0], ((), tuple(range(least(machine)[1]))))
            for (one, _), (other, _) in zip(found, found[1:]):
                self.same(words_compared(machine[0], one, other), -1)
            self.assertEqual(len(set(told for _, told in found)), len(found))
            for word, told in found:
                self.same(action(machine, word), told)

    def test_sixty_and_sixty_one(self):
        for machine in (SIXTY_TURNING, SIXTY_CALM):
            self.assertEqual(len(naive_words.Groups(machine).actions()), 60)
            self.assertEqual(len(actions(machine)), 60)
        for machine in (MORE_TURNING, MORE_CALM):
            self.assertEqual(len(naive_words.Groups(machine).actions()), 61)
            for call in (actions, turning_word):
                with self.refuses(TooMany):
                    call(machine)
            self.assertEqual(len(action(machine, ("a",))), least(machine)[1])

    def test_rings_of_sixty(self):
        rings = one_takes(one_takes(ring(3), ring(4)), ring(5))
        self.assertEqual(len(actions(rings)), 60)
        self.same(turning_word(rings), ("a",))
        one_more = one_takes(followed((TICK, 2, (0,), (1,), ((0, TRUE, 1),)), rings), (TICK, 1, (0,), (0,), ()))
        self.assertEqual((one_more[1], least(one_more)[1]), (15, 61))
        for call in (actions, turning_word):
            with self.refuses(TooMany):
                call(one_more)
        self.assertEqual(action(one_more, ("a",) * 8)[0], 8)


class Context(Case):
    def wanted(self, machine, first, second, length=3):
        """The first u, and for it the first v, by trying all words; None if no short ones are found."""
        words = list(naive_words.words_up_to(naive.letters_of_all(machine), length))
        for u in words:
            for v in words:
                if naive.taken(machine, u + first + v) != naive.taken(machine, u + second + v):
                    return (u, v)
        return None

    def test_words(self):
        self.same(context(LAST_EVEN, (), (2,)), ((), ()))
        self.same(context(LAST_EVEN, (), (3,)), ((0,), ()))
        self.same(context(PARITY, (1,), (2,)), ((), ()))
        self.assertIsNone(context(PARITY, (1, BIG), (3, -2)))
        self.assertIsNone(context(PARITY, (), (3, BIG + 1)))
        self.same(context(GUARDED, (-2,), ()), ((1,), ()))
        self.same(context(GUARDED, (1,), (-1,)), ((1,), ()))
        self.assertIsNone(context(GUARDED, (1, -1), (-1, -1, 4)))
        self.same(context(exactly(3), (1,), (2, 2)), ((), (0,)))
        self.assertIsNone(context(exactly(3), (1, 2, 3, 4), (1,) * 8))

    def test_the_first_u_comes_first(self):
        # Behind u = (1,) an empty v is enough, but () stands before it with a longer v.
        machine = (INTEGERS, 4, (0,), (3,), ((0, ("=", 5), 1), (0, ("=", 6), 2), (1, ("=", 7), 3), (0, ("=", 1), 3), (3, ("=", 5), 3)))
        self.same(context(machine, (5,), (6,)), ((), (7,)))
        self.same(self.wanted(machine, (5,), (6,), 1), ((), (7,)))

    def test_by_chance(self):
        alike = 0
        for chance, machine in naive.drawn(range(150), limit=7, most=1):
            words = some_words(chance, machine, 3)
            for first, second in itertools.combinations(words, 2):
                found = context(machine, first, second)
                if found is None:
                    alike += 1
                    self.same(action(machine, first), action(machine, second))
                    self.assertIsNone(self.wanted(machine, first, second, 1))
                else:
                    u, v = found
                    self.assertNotEqual(takes(machine, u + first + v), takes(machine, u + second + v))
                    if max(len(u), len(v)) <= 2:
                        self.same(found, self.wanted(machine, first, second, 2))
                    self.same(context(machine, second, first), found)
        self.assertGreater(alike, 20)

    def test_all_kinds(self):
        for seed in range(60):
            chance = Chance(seed, 20, (1, 2, 3, 4))
            machine = chance.machine(chance.kind())
            first, second = chance.word(machine[0], 2, 25), chance.word(machine[0], 2, 25)
            found = context(machine, first, second)
            self.assertEqual(found is None, action(machine, first) == action(machine, second))
            if found is not None:
                self.assertIn(found[0], first_words(machine))
                self.assertNotEqual(takes(machine, found[0] + first + found[1]), takes(machine, found[0] + second + found[1]))


class LetterClasses(Case):
    def test_letter_sets_in_their_order(self):
        self.same(letter_classes(LAST_EVEN), (letters_of(INTEGERS, EVEN), letters_of(INTEGERS, ODD)))
        big_odd = ("and", ODD, (">", 0))
        self.same(letter_classes(GUARDED), tuple(letters_of(INTEGERS, told) for told in (
            ("and", EVEN, ("not", ("<", 0))), big_odd, ("and", ODD, ("<", 0)), ("and", EVEN, ("<", 0)))))
        self.same(letter_classes((COLOURS, 1, (), (), ())), (("names", ("red", "blue")),))
        self.same(letter_classes((("names", ("z", "a", "b")), 2, (0,), (1,), ((0, ("is", "b"), 1), (0, ("is", "z"), 1)))),
                  (("names", ("z", "b")), ("names", ("a",))))

    def test_conditions_that_make_no_difference(self):
        machine = (INTEGERS, 3, (0,), (1, 2), ((0, ("<", 5), 1), (0, ("not", ("<", 5)), 2), (1, EVEN, 1), (2, EVEN, 2)))
        self.same(letter_classes(machine), (letters_of(INTEGERS, EVEN), letters_of(INTEGERS, ODD)))

    def test_by_chance(self):
        for chance, machine in naive.drawn(range(120)):
            groups = naive_words.Groups(machine)
            classes = {}
            for letter in groups.letters:
                classes.setdefault(groups.action((letter,)), []).append(letter)
            found = letter_classes(machine)
            self.assertEqual(len(found), len(classes))
            for letters, told in zip(found, classes.values()):
                self.assertEqual([letter for letter in groups.letters if holds(machine[0], letters, letter)], told)
                self.assertEqual(sorted(told, key=lambda letter: key(machine[0], letter)), told)
                self.same(letters, set_of(machine[0], ("in", letters)))
            for letter in [chance.letter(machine[0], BIG) for _ in range(4)]:
                inside = [letters for letters in found if holds(machine[0], letters, letter)]
                self.assertEqual(len(inside), 1)


class Turning(Case):
    def test_circles(self):
        self.same(turning_word(ring(2)), ("a",))
        self.same(turning_word(ring(3)), ("a",))
        self.assertIsNone(turning_word(ring(1)))
        self.assertIsNone(turning_word(ring(3, (0, 1, 2))))
        # Two letters together turn, and none alone: the letters lead round a circle of two states.
        machine = (INTEGERS, 3, (0,), (0,), ((0, EVEN, 1), (1, ODD, 0)))
        self.assertIsNone(turning_word(machine))
        machine = (INTEGERS, 4, (0,), (0,), ((0, EVEN, 1), (1, ODD, 2), (2, EVEN, 3), (3, ODD, 0)))
        self.same(turning_word(machine), (0, 1))
        machine = (ABC, 3, (0,), (0,), ((0, ("is", "a"), 1), (1, ("is", "b"), 0), (0, ("is", "c"), 0), (1, ("is", "c"), 1)))
        self.assertIsNone(turning_word(machine))

    def test_a_state_that_does_not_come_back_itself(self):
        # State 0 is left for good, and a circle begins behind it.
        machine = (TICK, 3, (0,), (1,), ((0, TRUE, 1), (1, TRUE, 2), (2, TRUE, 1)))
        self.same(turning_word(machine), ("a",))
        self.assertIsNone(turning_word((TICK, 3, (0,), (1,), ((0, TRUE, 1), (1, TRUE, 2), (2, TRUE, 2)))))

    def test_by_chance(self):
        turned = []
        for chance, machine in naive.drawn(range(200)):
            groups = naive_words.Groups(machine)
            told = groups.actions()
            if len(told) <= 60:
                word = next((word for found, word in told.items() if groups.turns(found)), None)
                self.same(turning_word(machine), word)
                turned.append(word is not None)
            else:
                with self.refuses(TooMany):
                    turning_word(machine)
        self.assertGreater(min(turned.count(True), turned.count(False)), 5)

    def test_sixty(self):
        self.assertIsNone(turning_word(SIXTY_CALM))
        self.assertIsNotNone(turning_word(SIXTY_TURNING))
        groups = naive_words.Groups(SIXTY_TURNING)
        self.same(turning_word(SIXTY_TURNING), next(word for told, word in groups.actions().items() if groups.turns(told)))


class Mergings(Case):
    def test_states_of_which_no_two_merge(self):
        self.same(mergings(ring(2)), ((None,), ()))
        self.same(mergings(ring(3)), ((None, None), (None,), ()))
        self.assertIsNone(reset_word(ring(3)))
        self.same(mergings(ring(1)), ((),))
        self.same(reset_word(ring(1)), ())

    def test_some_merge_and_some_do_not(self):
        machine = (ABC, 4, (0,), (1, 3), (
            (0, ("is", "a"), 2), (2, ("is", "a"), 1), (1, ("is", "a"), 2), (0, ("is", "b"), 1), (1, ("is", "b"), 1), (2, ("is", "b"), 2)))
        groups = naive_words.Groups(machine)
        many = len(groups.groups)
        wanted = tuple(tuple(groups.merging(i, j) for j in range(i + 1, many)) for i in range(many))
        self.same(mergings(machine), wanted)
        self.same(reset_word(machine), groups.reset_word())
        self.same(mergings(GUARDED), (((1,), (1, -1)), ((-1,),), ()))

    def test_first_words_by_length_then_by_letters(self):
        machine = (INTEGERS, 4, (0,), (3,), ((0, ("=", 4), 1), (1, ("=", -4), 2), (2, ("<", 0), 3), (0, ("=", 0), 3), (3, TRUE, 3)))
        groups = naive_words.Groups(machine)
        many = len(groups.groups)
        wanted = tuple(tuple(groups.merging(i, j) for j in range(i + 1, many)) for i in range(many))
        self.same(mergings(machine), wanted)

    def test_by_chance(self):
        kept = 0
        for chance, machine in naive.drawn(range(150)):
            groups = naive_words.Groups(machine)
            many = len(groups.groups)
            found = mergings(machine)
            self.same(found, tuple(tuple(groups.merging(i, j) for j in range(i + 1, many)) for i in range(many)))
            if many <= 8:
                word = groups.reset_word()
                self.same(reset_word(machine), word)
                self.assertEqual(word is None, None in [told for row in found for told in row])
                kept += word is None
        self.assertGreater(kept, 1)

    def test_eight_and_nine_states(self):
        six, seven = exactly(6), exactly(7)
        self.assertEqual((least(six)[1], least(seven)[1]), (8, 9))
        self.same(reset_word(six), (0,) * 7)
        with self.refuses(TooMany):
            reset_word(seven)
        self.same(mergings(six)[0], ((0,) * 7,) * 7)
        self.same(mergings(six)[6], ((0,),))
        self.same(mergings(seven)[0][-1], (0,) * 8)
        self.same(len(actions(seven)), 9)
        last = (INTEGERS, 4, (0,), (3,), ((0, TRUE, 0), (0, EVEN, 1), (1, TRUE, 2), (2, TRUE, 3)))
        self.assertEqual(least(last)[1], 8)
        self.same(reset_word(last), (0, 0, 0))
        later = followed(last, (INTEGERS, 2, (0,), (1,), ((0, TRUE, 1),)))
        self.assertEqual(least(later)[1], 16)
        with self.refuses(TooMany):
            reset_word(later)
        nine = one_takes(ring(8), (TICK, 2, (0,), (1,), ((0, TRUE, 1),)))
        self.assertEqual((least(ring(8))[1], least(nine)[1]), (8, 10))
        self.assertIsNone(reset_word(ring(8)))
        with self.refuses(TooMany):
            reset_word(nine)


class PassedOn(Case):
    def answers(self, machine):
        return (action(machine, ()), letter_classes(machine), mergings(machine))

    def test_returned_machines(self):
        for seed in range(60):
            chance = Chance(seed, 20, (1, 2, 3, 4))
            machine = chance.machine(chance.kind())
            for told in (least(machine), determined(machine)):
                if told[1] <= 16:
                    self.same(self.answers(told), self.answers(machine))
                    word = chance.word(machine[0], 4, 1000)
                    self.same(action(told, word), action(machine, word))

    def test_returned_words(self):
        for chance, machine in naive.drawn(range(60)):
            for word, told in zip(first_words(machine), range(least(machine)[1])):
                self.same(action(machine, word)[0], told)
            words = sorted(first_words(machine), key=lambda word: word_key(machine[0], word))
            self.same(words, list(first_words(machine)))

    def test_the_same_question_has_the_same_answer(self):
        machines = [machine for chance, machine in naive.drawn(range(40))]
        before = [self.answers(one) for one in machines]
        after = [self.answers(one) for one in machines[::-1]][::-1]
        self.same(after, before)


if __name__ == "__main__":
    unittest.main()

"""Which translations are right, and results: [7], [21], [180], [181] and the interface of translations.py."""

import unittest

from guardwords.errors import BadCondition, BadLetter, BadTerm, Unread
from guardwords.translations import behind, check_translation, restricted, results
from tests import naive_translations as naive
from tests.naive_translations import Writer
from tests.support import COLOURS, INTEGERS, NUMBERED, TAGGED, Case, letters_near, met, word_key

TRUE = ("true",)
EVEN = ("mod", 2, 0)
ODD = ("not", EVEN)
NEVER = ("and", EVEN, ("mod", 4, 1))
MAYBE = ("maybe", INTEGERS)
EITHER = ("either", (INTEGERS, COLOURS))
BIG = 10 ** 29 + 3
READ = ("read", ())
STAMPED = ("pair", ("always", "red"), ("plus", (), 1))
MARKED = (INTEGERS, NUMBERED, 2, (0,), ((0, ()), (1, (("pair", "blue", 0),))), ((0, EVEN, (STAMPED,), 0), (0, ODD, (), 1)))
INNER = ("read", ("second", "some"))


def one_state(kind, other, *steps, ends=((0, ()),)):
    return (kind, other, 1, (0,), ends, tuple((0, condition, terms, 0) for condition, terms in steps))


class Check(Case):
    def test_right_ones(self):
        for translation in (
            MARKED, (INTEGERS, COLOURS, 3, (), (), ()), one_state(INTEGERS, INTEGERS), one_state(INTEGERS, INTEGERS, (TRUE, ())),
            one_state(TAGGED, INTEGERS, (("second", ("some", TRUE)), (INNER,))), one_state(INTEGERS, MAYBE, (NEVER, (("some", READ),))),
            one_state(INTEGERS, COLOURS, ends=((0, ("red", "blue")), (0, ()))),
        ):
            self.assertIsNone(check_translation(translation))

    def test_each_error_alone(self):
        for error, translation in (
            (BadCondition, one_state(INTEGERS, INTEGERS, (("is", "red"), ()))),
            (BadCondition, one_state(INTEGERS, INTEGERS, (TRUE, (READ,)), (("and", ("false",), ("none",)), ()))),
            (BadTerm, one_state(INTEGERS, COLOURS, (TRUE, (READ,)))),
            (BadTerm, one_state(INTEGERS, COLOURS, (TRUE, (("always", "red"), ("always", "green"))))),
            (BadTerm, one_state(INTEGERS, INTEGERS, (("false",), (("read", ("first",)),)))),
            (BadTerm, one_state(INTEGERS, INTEGERS, (TRUE, (READ,)), (TRUE, (("always", True),)))),
            (BadLetter, one_state(INTEGERS, INTEGERS, ends=((0, ("red",)),))),
            (BadLetter, one_state(INTEGERS, INTEGERS, ends=((0, (1,)), (0, (1, ("none",)))))),
            (BadLetter, one_state(INTEGERS, COLOURS, ends=((0, (1,)),))),
            (Unread, one_state(TAGGED, INTEGERS, (TRUE, (INNER,)))),
            (Unread, one_state(EITHER, INTEGERS, (TRUE, (("read", (0,)),)))),
        ):
            with self.refuses(error):
                check_translation(translation)

    def test_two_at_once_in_their_order(self):
        wrong = {
            BadCondition: ("steps", (("first", ("is", "green")), ())), BadTerm: ("steps", (TRUE, (("read", (0,)),))),
            BadLetter: ("ends", (0, ("red",))), Unread: ("steps", (TRUE, (INNER,))),
        }
        order = list(wrong)
        for i, first in enumerate(order):
            for second in order[i + 1:]:
                for told in ((first, second), (second, first)):
                    steps = tuple(wrong[error][1] for error in told if wrong[error][0] == "steps")
                    ends = tuple(wrong[error][1] for error in told if wrong[error][0] == "ends")
                    with self.refuses(first):
                        check_translation(one_state(TAGGED, INTEGERS, *steps, ends=ends))

    def test_a_later_step_counts_before_a_term_of_an_earlier_one(self):
        with self.refuses(BadCondition):
            check_translation(one_state(INTEGERS, COLOURS, (TRUE, (READ,)), (("is", "red"), ())))
        with self.refuses(BadTerm):
            check_translation(one_state(TAGGED, INTEGERS, (TRUE, (INNER,)), (TRUE, (("always", "red"),))))

    def unread(self, translation, step, letter):
        with self.refuses(Unread):
            check_translation(translation)
        with self.assertRaises(Unread) as caught:
            check_translation(translation)
        self.same((caught.exception.step, caught.exception.letter), (step, letter))

    def test_the_first_step_and_its_first_letter(self):
        red, some = ("first", ("is", "red")), ("second", ("some", TRUE))
        self.unread(one_state(TAGGED, INTEGERS, (red, (INNER,))), 0, ("pair", "red", ("none",)))
        self.unread(one_state(TAGGED, INTEGERS, (some, (INNER,)), (("not", red), (INNER,)), (TRUE, (INNER,))), 1, ("pair", "blue", ("none",)))
        self.unread(one_state(TAGGED, INTEGERS, (NEVER_TAGGED, (INNER,)), (TRUE, ()), (TRUE, (("always", 1), INNER))), 2, ("pair", "red", ("none",)))
        self.unread(one_state(EITHER, INTEGERS, (("or", ("case", 0, (">", 3)), ("case", 1, ("is", "blue"))), (("plus", (0,), 1),))), 0, ("case", 1, "blue"))
        self.unread(one_state(EITHER, INTEGERS, (("case", 0, (">", 3)), (("plus", (0,), 1),)),
                              (("case", 0, (">", 3)), (("always", 1),)), (("case", 0, ("<", -3)), (("always", 2), ("always", 3))),
                              (("or", ("case", 1, TRUE), ("case", 0, TRUE)), (("minus", (0,), 0),))), 3, ("case", 1, "red"))
        self.unread(one_state(MAYBE, ("pair", INTEGERS, INTEGERS), (("not", ("some", (">", 0))), (("pair", ("read", ("some",)), ("always", 1)),))), 0, ("none",))
        self.unread(one_state(EITHER, ("pair", INTEGERS, COLOURS), (("case", 0, (">", 2)), (("pair", ("read", (0,)), ("read", (1,))),))), 0, ("case", 0, 3))

    def test_a_step_whose_condition_nothing_meets(self):
        self.assertIsNone(check_translation(one_state(TAGGED, INTEGERS, (NEVER_TAGGED, (INNER, INNER)))))
        self.assertIsNone(check_translation(one_state(EITHER, ("pair", INTEGERS, COLOURS), (("false",), (("pair", ("read", (0,)), ("read", (1,))),)))))

    def test_by_chance(self):
        seen = [0, 0]
        for seed in range(400):
            chance = Writer(seed, 2, (1, 2, 3))
            kind, other = chance.kind(2, 4), chance.kind(2, 4)
            good = chance.translation(kind, other)
            self.assertIsNone(check_translation(good))
            steps = tuple((p, chance.condition(kind, 3), terms, q) for p, _, terms, q in good[5])
            if len(letters_near(kind, 12)) > 700:
                continue
            wanted = next(((i, a) for i, (_, c, terms, _) in enumerate(steps) for a in letters_near(kind, 12)
                           if met(c, a) and None in [naive.gives(term, a) for term in terms]), None)
            seen[wanted is None] += 1
            translation = good[:5] + (steps,)
            if wanted is None:
                self.assertIsNone(check_translation(translation))
            else:
                self.unread(translation, *wanted)
        self.assertGreater(min(seen), 15)


NEVER_TAGGED = ("and", ("first", ("is", "red")), ("first", ("is", "blue")))


class Results(Case):
    def test_edges(self):
        nothing = (INTEGERS, COLOURS, 2, (), ((0, ()),), ((0, TRUE, (), 0),))
        for word in ((), (3,), (3, 4)):
            self.same(results(nothing, word), ())
        self.same(results((INTEGERS, COLOURS, 1, (0,), (), ((0, TRUE, (), 0),)), (1,)), ())
        empty = one_state(INTEGERS, COLOURS)
        self.same((results(empty, ()), results(empty, (1,))), (((),), ()))
        self.same(results(one_state(INTEGERS, COLOURS, (TRUE, ())), (1, 2, 3)), ((),))
        self.same(results(one_state(INTEGERS, COLOURS, (NEVER, ())), (1,)), ())

    def test_several_runs_with_one_result(self):
        twice = one_state(INTEGERS, INTEGERS, (TRUE, (READ,)), (EVEN, (("plus", (), 0),)), (TRUE, (READ,)))
        self.same(results(twice, (2, 4, 3)), ((2, 4, 3),))
        split = (INTEGERS, INTEGERS, 3, (0, 1), ((2, ()), (1, (5,))), ((0, TRUE, (READ,), 2), (1, TRUE, (), 1), (0, ("=", 5), (READ,), 1)))
        self.same(results(split, (5,)), ((5,), (5, 5)))
        self.same(results(split, (6,)), ((5,), (6,)))

    def test_the_order(self):
        many = one_state(INTEGERS, INTEGERS, (TRUE, (("always", -1),)), (TRUE, (("always", 1),)), (TRUE, ()),
                         (TRUE, (("always", 0), ("always", 2))), (TRUE, (("always", 2),)))
        self.same(results(many, (9,)), ((), (1,), (-1,), (2,), (0, 2)))
        names = one_state(INTEGERS, ("names", ("b", "a")), (TRUE, (("always", "a"),)), (TRUE, (("always", "b"),)))
        self.same(results(names, (1, 2)), (("b", "b"), ("b", "a"), ("a", "b"), ("a", "a")))
        maybes = one_state(INTEGERS, MAYBE, (TRUE, (("some", READ),)), (TRUE, (("always", ("none",)),)))
        self.same(results(maybes, (4,)), ((("none",),), (("some", 4),)))

    def test_several_end_words_at_one_state(self):
        ends = ((0, (3, 4)), (0, ()), (0, (-3,)), (0, (3,)))
        self.same(results(one_state(INTEGERS, INTEGERS, (TRUE, (READ,)), ends=ends), (7,)), ((7,), (7, 3), (7, -3), (7, 3, 4)))
        self.same(results(one_state(INTEGERS, INTEGERS, ends=ends), ()), ((), (3,), (-3,), (3, 4)))

    def test_steps_that_write_nothing_and_two_letters(self):
        translation = (INTEGERS, INTEGERS, 2, (0,), ((1, ()),), ((0, EVEN, (), 0), (0, ODD, (READ, ("minus", (), 0)), 1), (1, TRUE, (), 1)))
        self.same(results(translation, (2, 4, 3, 8)), ((3, -3),))
        self.same(results(translation, (2, 4)), ())

    def test_long_words_and_integers(self):
        word = (BIG, -BIG, 5, 0, BIG + 1, 1, 2, 3)
        moved = one_state(INTEGERS, INTEGERS, (EVEN, (("plus", (), 20),)), (ODD, (("minus", (), -20),)))
        self.same(results(moved, word), (tuple(x + 20 if x % 2 == 0 else -20 - x for x in word),))
        forked = one_state(INTEGERS, INTEGERS, (TRUE, (READ,)), (TRUE, (("plus", (), 1),)))
        found = results(forked, word)
        self.assertEqual(len(found), 256)
        self.same(found, naive.results(forked, word))
        self.same(results(MARKED, (2 * BIG, BIG)), ((("pair", "red", 2 * BIG + 1), ("pair", "blue", 0)),))

    def test_many_results(self):
        steps = [(TRUE, (("plus", (), k), ("minus", (), k))) for k in (0, 1, 2)]
        found = results(one_state(INTEGERS, INTEGERS, *steps), (1, 2, 3, 4, 5, 6, 7, 8))
        self.assertEqual(len(found), 3 ** 8)
        self.assertEqual(sorted(set(found), key=lambda word: word_key(INTEGERS, word)), list(found))

    def test_bad_letters(self):
        for translation in (MARKED, one_state(INTEGERS, COLOURS), (INTEGERS, COLOURS, 1, (), (), ()), one_state(INTEGERS, INTEGERS, (NEVER, ()))):
            for bad in ("red", ("none",), ("some", 1), ("pair", 1, 1), ("case", 0, 1)):
                for length in (1, 2, 8):
                    for at in range(length):
                        with self.refuses(BadLetter):
                            results(translation, (4,) * at + (bad,) + (3,) * (length - at - 1))
        with self.refuses(BadLetter):
            results(one_state(NUMBERED, INTEGERS, (TRUE, ())), (("pair", "green", 1),))
        with self.refuses(BadLetter):
            results(one_state(("names", ("a",)), COLOURS, (TRUE, ())), ("red",))

    def test_by_chance(self):
        many = 0
        for chance, kind, other in naive.drawn(range(300)):
            translation = chance.translation(kind, other)
            for _ in range(8):
                word = chance.word(kind, chance.randint(0, 5), chance.choice((2, BIG)))
                found = results(translation, word)
                self.same(found, naive.results(translation, word))
                many += len(found) > 1
        self.assertGreater(many, 100)

    def test_returned_translations_of_any_size(self):
        for seed in range(40):
            chance = Writer(seed, 1)
            translation = chance.translation(INTEGERS, INTEGERS)
            machine = chance.machine(INTEGERS)
            twice = behind(translation, translation)
            more = behind(restricted(twice, machine), translation)
            for _ in range(4):
                word = chance.word(INTEGERS, chance.randint(0, 3))
                told = {one for word in naive.results(translation, word) for one in naive.results(translation, word)}
                self.same(results(twice, word), tuple(sorted(told, key=lambda word: word_key(INTEGERS, word))))
                self.same(results(more, word), results(behind(twice, translation), word) if taken(machine, word) else ())

    def test_the_same_question_has_the_same_answer(self):
        drawn = [(chance.translation(kind, other), chance.word(kind, 3)) for chance, kind, other in naive.drawn(range(40))]
        before = [results(*question) for question in drawn]
        self.same([results(*question) for question in drawn[::-1]][::-1], before)


def taken(machine, word):
    states = set(machine[2])
    for letter in word:
        states = {q for p, condition, q in machine[4] if p in states and met(condition, letter)}
    return bool(states & set(machine[3]))


if __name__ == "__main__":
    unittest.main()

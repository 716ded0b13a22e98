"""Letters, their order, and paths: [20], [21], [22] and the interface of letters.py."""

import unittest

from guardwords.errors import BadLetter
from guardwords.letters import compared, is_letter, kind_at, part_at, words_compared
from tests.support import COLOURS, INTEGERS, NUMBERED, TAGGED, Case, Chance, key, letters_near, word_key

EITHER = ("either", (INTEGERS, COLOURS))
MAYBE = ("maybe", INTEGERS)
# 3 deep, with 6 kinds, itself included.
DEEP = ("either", (("pair", INTEGERS, COLOURS), ("maybe", INTEGERS)))
KINDS = (COLOURS, INTEGERS, NUMBERED, EITHER, MAYBE, TAGGED, DEEP)
BIG = 123456789012345678901234567890


class IsLetter(Case):
    def check(self, kind, value, wanted):
        self.assertIs(is_letter(kind, value), wanted, (kind, value))

    def test_letters(self):
        for kind, value in (
            (COLOURS, "red"), (COLOURS, "blue"), (INTEGERS, 0), (INTEGERS, -7), (INTEGERS, BIG), (INTEGERS, -BIG),
            (NUMBERED, ("pair", "red", -3)), (EITHER, ("case", 0, 5)), (EITHER, ("case", 1, "blue")),
            (MAYBE, ("none",)), (MAYBE, ("some", 0)), (TAGGED, ("pair", "blue", ("none",))),
            (TAGGED, ("pair", "red", ("some", 4))), (DEEP, ("case", 0, ("pair", BIG, "red"))),
            (DEEP, ("case", 1, ("none",))), (DEEP, ("case", 1, ("some", -1))),
            (("names", ("pair", "none", "some", "case")), "none"),
        ):
            self.check(kind, value, True)

    def test_letters_of_other_kinds(self):
        for kind, value in (
            (COLOURS, "green"), (COLOURS, ""), (COLOURS, "re"), (COLOURS, 0), (COLOURS, ("red",)), (INTEGERS, "1"),
            (INTEGERS, (1,)), (NUMBERED, ("pair", 1, "red")), (NUMBERED, "red"), (NUMBERED, ("case", 0, "red")),
            (EITHER, ("case", 0, "red")), (EITHER, ("case", 1, 1)), (EITHER, ("some", 1)), (MAYBE, 4),
            (MAYBE, ("some", "red")), (MAYBE, "none"), (TAGGED, ("pair", "red", 4)), (DEEP, ("case", 0, ("none",))),
            (COLOURS, ("none",)), (INTEGERS, ("none",)), (NUMBERED, ("none",)), (EITHER, ("none",)),
        ):
            self.check(kind, value, False)

    def test_none_truths_and_other_values(self):
        for kind in KINDS:
            for value in (None, True, False, (), ("none", "none"), ((),), "pair", ("pair",), ("some",), ("case",),
                          (None,), (True,), ("pair", None, None), ("some", None), ("case", 0, None), (0, 1, 2),
                          ("case", None, 0), ("none", ()), ("some", ("some", ("some", 1))), ("pair", ("pair",), 1)):
                self.check(kind, value, False)

    def test_truths_are_no_integers(self):
        for truth in (True, False):
            self.check(INTEGERS, truth, False)
            self.check(NUMBERED, ("pair", "red", truth), False)
            self.check(EITHER, ("case", truth, 1), False)
            self.check(EITHER, ("case", truth, "red"), False)
            self.check(EITHER, ("case", 0, truth), False)
            self.check(MAYBE, ("some", truth), False)
            self.check(DEEP, ("case", 1, ("some", truth)), False)
            self.check(("either", (COLOURS, COLOURS)), ("case", truth, "red"), False)

    def test_numbers_of_cases(self):
        for number, wanted in ((-1, False), (0, True), (1, True), (2, False), (BIG, False)):
            self.check(("either", (INTEGERS, INTEGERS)), ("case", number, 3), wanted)
        self.check(("either", (INTEGERS,)), ("case", 1, 3), False)

    def test_elements_taken_out_or_added(self):
        for kind in KINDS[2:]:
            for letter in letters_near(kind, 1):
                self.check(kind, letter, True)
                self.check(kind, letter[:-1], False)
                self.check(kind, letter + (0,), False)
                self.check(kind, letter[1:], False)
                self.check(kind, ("other",) + letter[1:], False)
                self.check(kind, list(letter), False)

    def test_by_chance(self):
        for seed in range(150):
            chance = Chance(seed, 10 ** 29)
            kind, other = chance.kind(), chance.kind()
            for _ in range(5):
                self.check(kind, chance.letter(kind), True)
            if "integers" not in repr((kind, other)):
                letter = chance.letter(other)
                self.check(kind, letter, letter in letters_near(kind, 0))


class Order(Case):
    def test_integers(self):
        order = (0, 1, -1, 2, -2, 3, -3, BIG, -BIG, BIG + 1)
        for i, one in enumerate(order):
            for j, other in enumerate(order):
                self.same(compared(INTEGERS, one, other), (i > j) - (i < j))

    def test_names_stand_as_in_the_kind(self):
        self.same(compared(COLOURS, "red", "blue"), -1)
        self.same(compared(("names", ("blue", "red")), "red", "blue"), 1)
        self.same(compared(COLOURS, "red", "red"), 0)

    def test_pairs_by_their_first_parts(self):
        self.same(compared(NUMBERED, ("pair", "red", 9), ("pair", "blue", 0)), -1)
        self.same(compared(NUMBERED, ("pair", "red", -2), ("pair", "red", 2)), 1)
        self.same(compared(NUMBERED, ("pair", "red", -2), ("pair", "red", -2)), 0)

    def test_cases_and_none_first(self):
        self.same(compared(EITHER, ("case", 0, 99), ("case", 1, "red")), -1)
        self.same(compared(EITHER, ("case", 1, "blue"), ("case", 1, "red")), 1)
        self.same(compared(MAYBE, ("none",), ("some", 0)), -1)
        self.same(compared(MAYBE, ("some", 0), ("none",)), 1)
        self.same(compared(MAYBE, ("none",), ("none",)), 0)
        self.same(compared(MAYBE, ("some", 1), ("some", -1)), -1)

    def test_words(self):
        self.same(words_compared(INTEGERS, (), ()), 0)
        self.same(words_compared(INTEGERS, (), (0,)), -1)
        self.same(words_compared(INTEGERS, (5,), (0, 0)), -1)
        self.same(words_compared(INTEGERS, (0, 0), (5,)), 1)
        self.same(words_compared(INTEGERS, (1, 7), (-1, 0)), -1)
        self.same(words_compared(INTEGERS, (1, 7), (1, -7)), -1)
        self.same(words_compared(INTEGERS, (1, BIG), (1, BIG)), 0)

    def test_bad_letters(self):
        for first, second in (("green", "red"), ("red", "green"), (1, "red"), ("red", 1), ("green", "green"),
                              (("none",), "red")):
            with self.refuses(BadLetter):
                compared(COLOURS, first, second)
        with self.refuses(BadLetter):
            compared(NUMBERED, ("pair", "red", 1), ("pair", "blue", "red"))

    def test_bad_letters_in_words_of_different_lengths(self):
        for first, second in ((("green",), ()), ((), ("green",)), (("red",), ("red", 1)), (("blue", 2), ("red", "red")),
                              (("red", "red", "green"), ("blue",)), (("green",), ("green",))):
            with self.refuses(BadLetter):
                words_compared(COLOURS, first, second)
            with self.refuses(BadLetter):
                words_compared(COLOURS, second, first)

    def test_by_chance(self):
        for seed in range(200):
            chance = Chance(seed, 4)
            kind = chance.kind()
            for _ in range(6):
                one, other = chance.letter(kind), chance.letter(kind)
                wanted = (key(kind, one) > key(kind, other)) - (key(kind, one) < key(kind, other))
                self.same(compared(kind, one, other), wanted)
                u, v = chance.word(kind, chance.randint(0, 3), 1), chance.word(kind, chance.randint(0, 3), 1)
                wanted = (word_key(kind, u) > word_key(kind, v)) - (word_key(kind, u) < word_key(kind, v))
                self.same(words_compared(kind, u, v), wanted)
                self.same(words_compared(kind, v, u), -wanted)


class Paths(Case):
    def test_each_step(self):
        self.same(kind_at(NUMBERED, ("first",)), COLOURS)
        self.same(kind_at(NUMBERED, ("second",)), INTEGERS)
        self.same(kind_at(EITHER, (0,)), INTEGERS)
        self.same(kind_at(EITHER, (1,)), COLOURS)
        self.same(kind_at(MAYBE, ("some",)), INTEGERS)
        self.same(kind_at(DEEP, (0, "second")), COLOURS)
        self.same(kind_at(DEEP, (1, "some")), INTEGERS)
        for kind in KINDS:
            self.same(kind_at(kind, ()), kind)

    def test_paths_that_do_not_fit(self):
        for kind, path in (
            (NUMBERED, ("some",)), (NUMBERED, (0,)), (EITHER, (2,)), (EITHER, ("first",)), (MAYBE, (0,)),
            (MAYBE, ("first",)), (INTEGERS, ("first",)), (COLOURS, (0,)), (TAGGED, ("second", "some", "first")),
            (TAGGED, ("first", "some")), (DEEP, (0, 0)), (DEEP, (1, "first")), (NUMBERED, ("second", "second")),
        ):
            self.assertIsNone(kind_at(kind, path))

    def test_parts_that_are_there(self):
        self.same(part_at(("pair", "red", 4), ("first",)), "red")
        self.same(part_at(("pair", "red", 4), ("second",)), 4)
        self.same(part_at(("case", 2, -1), (2,)), -1)
        self.same(part_at(("some", 0), ("some",)), 0)
        self.same(part_at(("case", 0, ("pair", ("some", BIG), 1)), (0, "first", "some")), BIG)
        for letter in ("red", 0, ("none",), ("pair", 1, 2), ("case", 1, 0), ("some", "a")):
            self.same(part_at(letter, ()), letter)

    def test_parts_that_are_not_there(self):
        for letter, path in (
            (("none",), ("some",)), (("case", 1, "red"), (0,)), (("pair", 1, ("none",)), ("second", "some")),
            ("red", ("first",)), (0, (0,)), (("some", 1), ("first",)), (("pair", 1, 2), (1,)),
            (("pair", 1, 2), ("some",)), (("case", 0, 1), ("second",)), (("some", ("none",)), ("some", "some")),
            (("none",), ("first",)), ("pair", ("first",)), ("some", ("some",)),
        ):
            self.assertIsNone(part_at(letter, path), (letter, path))

    def test_parts_are_letters_of_the_kind_there(self):
        for seed in range(150):
            chance = Chance(seed)
            kind = chance.kind()
            path = ()
            for _ in range(3):
                path += (chance.choice(("first", "second", "some", 0, 1, 2)),)
                below = kind_at(kind, path)
                part = part_at(chance.letter(kind), path)
                if below is None:
                    self.assertIsNone(part)
                else:
                    self.assertTrue(part is None or is_letter(below, part))


if __name__ == "__main__":
    unittest.main()

"""Sizes, numbered letters, and going on from a letter: [43] and the interface of sets.py."""

import unittest

from guardwords.letters import compared
from guardwords.sets import holds, letter_at, letters_before, letters_of, next_letter, size
from tests.support import COLOURS, INTEGERS, NUMBERED, Case, Chance, inside, key, letters_near, span

DOUBLED = ("pair", INTEGERS, INTEGERS)
EITHER = ("either", (INTEGERS, COLOURS))
MAYBE = ("maybe", INTEGERS)


def integers_in(letter):
    """The integers in the letter, without the numbers of cases."""
    if isinstance(letter, int):
        return [letter]
    if isinstance(letter, str):
        return []
    return [number for part in letter[2 if letter[0] == "case" else 1:] for number in integers_in(part)]


class Naive:
    """A letter set of which all letters with integers up to some reach are gone through."""

    def __init__(self, kind, letters, most=0):
        bound, period = span(letters)
        self.kind = kind
        self.beyond = max(bound, most)
        near = letters_near(kind, self.beyond + period)
        self.letters = [letter for letter in near if inside(letters, letter)]

    def counted(self, letters):
        """How many letters there are; one with an integer beyond all bounds stands for endlessly many."""
        if any(abs(number) > self.beyond for letter in letters for number in integers_in(letter)):
            return None
        return len(letters)

    def size(self):
        return self.counted(self.letters)

    def before(self, letter):
        return self.counted([a for a in self.letters if key(self.kind, a) < key(self.kind, letter)])

    def behind(self, letter):
        return next((a for a in self.letters if key(self.kind, a) > key(self.kind, letter)), None)


def drawn(seeds, most=2, mods=(1, 2), limit=1500, reach=9):
    for seed in seeds:
        chance = Chance(seed, most, mods)
        kind = chance.kind()
        if len(letters_near(kind, reach)) <= limit:
            yield chance, kind


class Sizes(Case):
    def test_each_kind(self):
        for kind, condition, wanted in (
            (COLOURS, ("true",), 2), (COLOURS, ("is", "red"), 1), (COLOURS, ("false",), 0), (INTEGERS, ("true",), None),
            (INTEGERS, ("and", ("<", 4), (">", -3)), 6), (INTEGERS, ("<", 0), None), (INTEGERS, (">", 0), None),
            (INTEGERS, ("false",), 0), (NUMBERED, ("second", ("=", 3)), 2), (NUMBERED, ("first", ("is", "red")), None),
            (NUMBERED, ("and", ("first", ("is", "red")), ("second", ("=", 3))), 1), (NUMBERED, ("false",), 0),
            (DOUBLED, ("first", ("=", 0)), None), (DOUBLED, ("second", ("=", 0)), None),
            (EITHER, ("case", 1, ("true",)), 2), (EITHER, ("case", 0, ("true",)), None), (MAYBE, ("none",), 1),
            (MAYBE, ("some", ("=", 2)), 1), (MAYBE, ("or", ("none",), ("some", ("=", 2))), 2), (MAYBE, ("true",), None),
        ):
            self.same(size(kind, letters_of(kind, condition)), wanted)

    def test_by_chance(self):
        for chance, kind in drawn(range(200)):
            letters = letters_of(kind, chance.condition(kind))
            self.same(size(kind, letters), Naive(kind, letters).size())


class Numbered(Case):
    def check(self, kind, condition, wanted):
        letters = letters_of(kind, condition)
        for k, letter in wanted.items():
            self.same(letter_at(kind, letters, k), letter)

    def test_integers(self):
        self.check(INTEGERS, ("true",), {0: 0, 1: 1, 2: -1, 3: 2, 39: 20, 40: -20})
        self.check(INTEGERS, ("mod", 2, 0), {0: 0, 1: 2, 2: -2, 40: -40})
        self.check(INTEGERS, ("<", -18), {0: -19, 1: -20, 40: -59})
        self.check(INTEGERS, ("and", (">", -3), ("<", 2)), {0: 0, 1: 1, 2: -1, 3: -2, 4: None, 40: None})
        self.check(INTEGERS, ("false",), {0: None, 40: None})

    def test_other_kinds(self):
        self.check(COLOURS, ("true",), {0: "red", 1: "blue", 2: None})
        self.check(COLOURS, ("is", "blue"), {0: "blue", 1: None})
        self.check(MAYBE, ("true",), {0: ("none",), 1: ("some", 0), 40: ("some", 20)})
        self.check(MAYBE, ("some", (">", 3)), {0: ("some", 4), 40: ("some", 44)})
        self.check(EITHER, ("true",), {0: ("case", 0, 0), 40: ("case", 0, -20)})
        self.check(EITHER, ("or", ("case", 1, ("true",)), ("case", 0, ("=", 9))),
                   {0: ("case", 0, 9), 1: ("case", 1, "red"), 2: ("case", 1, "blue"), 3: None})

    def test_pairs(self):
        self.check(NUMBERED, ("true",), {0: ("pair", "red", 0), 40: ("pair", "red", -20)})
        self.check(NUMBERED, ("second", ("=", 5)), {0: ("pair", "red", 5), 1: ("pair", "blue", 5), 2: None})
        self.check(DOUBLED, ("second", ("=", 5)), {0: ("pair", 0, 5), 1: ("pair", 1, 5), 40: ("pair", -20, 5)})
        self.check(DOUBLED, ("first", ("=", 5)), {0: ("pair", 5, 0), 40: ("pair", 5, -20)})
        rows = ("or", ("and", ("first", ("=", 2)), ("second", ("<", 0))),
                ("and", ("first", ("mod", 2, 1)), ("or", ("second", ("=", 3)), ("second", ("=", -3)))))
        self.check(DOUBLED, rows, {0: ("pair", 1, 3), 1: ("pair", 1, -3), 2: ("pair", -1, 3), 3: ("pair", -1, -3),
                                   4: ("pair", 2, -1), 5: ("pair", 2, -2), 40: ("pair", 2, -37)})

    def test_letters_behind_endlessly_many_have_no_number(self):
        letters = letters_of(EITHER, ("true",))
        self.assertIs(holds(EITHER, letters, ("case", 1, "red")), True)
        self.assertIsNone(letters_before(EITHER, letters, ("case", 1, "red")))
        letters = letters_of(NUMBERED, ("true",))
        self.assertIsNone(letters_before(NUMBERED, letters, ("pair", "blue", 0)))

    def test_by_chance(self):
        for chance, kind in drawn(range(150), 2, (1, 2), 150, 4):
            letters = letters_of(kind, chance.condition(kind))
            bound, period = span(letters)
            wide = 6 if "pair" in repr(kind) else 40
            near = Naive(kind, letters, bound + wide * period).letters
            for k in (0, 1, 2, 3, wide):
                self.same(letter_at(kind, letters, k), near[k] if k < len(near) else None)


class GoingOn(Case):
    def test_next_of_each_kind(self):
        for kind, condition, letter, wanted in (
            (INTEGERS, ("mod", 2, 0), 3, 4), (INTEGERS, ("mod", 2, 0), 4, -4), (INTEGERS, ("mod", 2, 0), -4, 6),
            (INTEGERS, ("=", 5), 5, None), (INTEGERS, ("=", 5), -4, 5), (INTEGERS, ("=", 5), -5, None),
            (INTEGERS, ("<", 0), 1000, -1000), (INTEGERS, ("<", 0), -1000, -1001), (INTEGERS, (">", 0), -1000, 1001),
            (INTEGERS, ("false",), 0, None), (COLOURS, ("true",), "red", "blue"), (COLOURS, ("true",), "blue", None),
            (COLOURS, ("is", "red"), "red", None), (COLOURS, ("is", "red"), "blue", None),
            (MAYBE, ("true",), ("none",), ("some", 0)), (MAYBE, ("none",), ("none",), None),
            (MAYBE, ("none",), ("some", 0), None), (MAYBE, ("some", ("=", -2)), ("none",), ("some", -2)),
            (EITHER, ("case", 1, ("true",)), ("case", 0, 7), ("case", 1, "red")),
            (EITHER, ("true",), ("case", 0, 7), ("case", 0, -7)), (EITHER, ("case", 0, ("true",)), ("case", 1, "red"), None),
            (EITHER, ("true",), ("case", 1, "blue"), None),
            (NUMBERED, ("second", ("=", 2)), ("pair", "red", 1), ("pair", "red", 2)),
            (NUMBERED, ("second", ("=", 2)), ("pair", "red", 2), ("pair", "blue", 2)),
            (NUMBERED, ("second", ("=", 2)), ("pair", "blue", 2), None),
            (NUMBERED, ("first", ("is", "blue")), ("pair", "red", 2), ("pair", "blue", 0)),
            (DOUBLED, ("true",), ("pair", 1000, -1000), ("pair", 1000, 1001)),
            (DOUBLED, ("second", ("=", 0)), ("pair", 1000, 0), ("pair", -1000, 0)),
        ):
            self.same(next_letter(kind, letters_of(kind, condition), letter), wanted)

    def test_before_of_each_kind(self):
        for kind, condition, letter, wanted in (
            (INTEGERS, ("mod", 2, 0), 0, 0), (INTEGERS, ("mod", 2, 0), -2, 2), (INTEGERS, ("mod", 2, 0), 1000, 999),
            (INTEGERS, ("mod", 2, 0), -1000, 1000), (INTEGERS, ("mod", 2, 0), 999, 999), (INTEGERS, ("<", 0), 1000, 999),
            (INTEGERS, ("<", 0), -1000, 999), (INTEGERS, (">", 0), -1000, 1000), (COLOURS, ("true",), "red", 0),
            (COLOURS, ("true",), "blue", 1), (COLOURS, ("is", "blue"), "blue", 0), (MAYBE, ("true",), ("none",), 0),
            (MAYBE, ("true",), ("some", 0), 1), (MAYBE, ("some", ("true",)), ("some", 3), 5), (MAYBE, ("none",), ("some", 9), 1),
            (EITHER, ("case", 0, ("=", 1)), ("case", 1, "blue"), 1), (EITHER, ("true",), ("case", 1, "red"), None),
            (EITHER, ("case", 1, ("true",)), ("case", 1, "blue"), 1), (EITHER, ("true",), ("case", 0, -1), 2),
            (NUMBERED, ("second", ("=", 2)), ("pair", "red", 0), 0), (NUMBERED, ("second", ("=", 2)), ("pair", "red", -2), 1),
            (NUMBERED, ("second", ("=", 2)), ("pair", "blue", 2), 1), (NUMBERED, ("true",), ("pair", "blue", 0), None),
            (NUMBERED, ("first", ("is", "blue")), ("pair", "blue", 4), 7), (DOUBLED, ("true",), ("pair", 0, 8), 15),
            (DOUBLED, ("true",), ("pair", 1, 0), None), (DOUBLED, ("second", ("=", 3)), ("pair", -1000, 4), 2001),
            (DOUBLED, ("false",), ("pair", -1000, 1000), 0),
        ):
            self.same(letters_before(kind, letters_of(kind, condition), letter), wanted)

    def test_by_chance(self):
        for chance, kind in drawn(range(200)):
            letters = letters_of(kind, chance.condition(kind))
            for _ in range(4):
                letter = chance.letter(kind, 3)
                naive = Naive(kind, letters, 3)
                self.same(next_letter(kind, letters, letter), naive.behind(letter))
                self.same(letters_before(kind, letters, letter), naive.before(letter))

    def test_far_letters_by_chance(self):
        for seed in range(20):
            chance = Chance(seed, 20, (1, 2, 3, 4))
            kind = chance.choice((INTEGERS, MAYBE, ("maybe", EITHER)))
            letters = letters_of(kind, chance.condition(kind))
            letter = chance.letter(kind, 1000)
            naive = Naive(kind, letters, 1000)
            self.same(next_letter(kind, letters, letter), naive.behind(letter))
            self.same(letters_before(kind, letters, letter), naive.before(letter))

    def test_the_four_fit_together(self):
        for seed in range(120):
            chance = Chance(seed, 20, (1, 2, 3, 4))
            kind = chance.kind()
            letters = letters_of(kind, chance.condition(kind))
            many = size(kind, letters)
            letter, last = letter_at(kind, letters, 0), None
            self.assertEqual(letter is None, many == 0)
            for k in range(41):
                self.same(letter_at(kind, letters, k), letter)
                self.assertEqual(letter is None, many is not None and k >= many)
                if letter is None:
                    break
                self.assertIs(holds(kind, letters, letter), True)
                self.same(letters_before(kind, letters, letter), k)
                if last is not None:
                    self.same(compared(kind, last, letter), -1)
                last, letter = letter, next_letter(kind, letters, letter)

    def test_three_integers(self):
        kind = ("pair", DOUBLED, INTEGERS)
        letters = letters_of(kind, ("and", ("first", ("second", ("=", 1))), ("second", ("mod", 4, 1))))
        self.same(next_letter(kind, letters, ("pair", ("pair", 1000, 1), 1)), ("pair", ("pair", 1000, 1), -3))
        self.same(next_letter(kind, letters, ("pair", ("pair", 1000, 2), 1)), ("pair", ("pair", -1000, 1), 1))
        self.same(letters_before(kind, letters, ("pair", ("pair", 0, 0), 77)), 0)
        self.same(letters_before(kind, letters, ("pair", ("pair", 0, 1), 5)), 2)
        self.assertIsNone(letters_before(kind, letters, ("pair", ("pair", 0, 2), 1)))


if __name__ == "__main__":
    unittest.main()

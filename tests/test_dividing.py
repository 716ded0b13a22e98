"""The classes into which conditions divide the letters of a kind: [50], and in which class a letter is."""

import unittest

from guardwords.conditions import meets
from guardwords.dividing import Division
from guardwords.sets import holds
from tests.support import COLOURS, INTEGERS, NUMBERED, TAGGED, Case, Chance, key, letters_near

BIG = 10 ** 29


class Classes(Case):
    def check(self, kind, conditions, letters):
        division = Division(kind, conditions)
        many = len(division.firsts)
        for letter in letters:
            number = division.class_of(letter)
            for condition in conditions:
                self.assertIs(division.met(condition)[number], meets(kind, condition, letter))
            for other in range(many):
                alone = division.letters_in([at == other for at in range(many)])
                self.assertIs(holds(kind, alone, letter), other == number)
            self.assertLessEqual(key(kind, division.firsts[number]), key(kind, letter))

    def test_first_letters_are_in_their_classes(self):
        for seed in range(100):
            chance = Chance(seed, 20, (1, 2, 3, 4))
            kind = chance.kind()
            division = Division(kind, [chance.condition(kind) for _ in range(3)])
            self.assertEqual([division.class_of(letter) for letter in division.firsts], list(range(len(division.firsts))))

    def test_letters_near_and_far(self):
        for kind in (INTEGERS, COLOURS, NUMBERED, TAGGED, ("either", (COLOURS, INTEGERS, ("maybe", INTEGERS)))):
            for seed in range(15):
                chance = Chance(seed, 2, (1, 2, 3))
                conditions = [chance.condition(kind, 5) for _ in range(3)]
                self.check(kind, conditions, letters_near(kind, 9) + [chance.letter(kind, BIG) for _ in range(9)])

    def test_without_conditions(self):
        for kind in (INTEGERS, COLOURS, TAGGED):
            self.check(kind, [], letters_near(kind, 2))
            self.assertEqual(len(Division(kind, []).firsts), 1)

    def test_all_kinds(self):
        for seed in range(150):
            chance = Chance(seed, 20, (1, 2, 3, 4))
            kind = chance.kind()
            letters = [chance.letter(kind, chance.choice((3, 25, BIG))) for _ in range(6)]
            self.check(kind, [chance.condition(kind, 8) for _ in range(2)], letters)


if __name__ == "__main__":
    unittest.main()

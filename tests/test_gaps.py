"""What the parting of terms [173] rests on: the gaps between two terms, and the first letters in two letter sets."""

import unittest

from guardwords.gaps import gaps_between
from guardwords.membership import first_shared
from guardwords.reaching import passed
from tests import naive_translations as naive
from tests.naive_translations import Writer, moved_by
from tests.support import COLOURS, INTEGERS, Case, letters_near, met, set_of, span

MAYBE = ("maybe", INTEGERS)
EITHER = ("either", (INTEGERS, COLOURS))
READ = ("read", ())


def is_open(gap, letter):
    """Whether the letter has the gap, by what is told of gaps."""
    if gap[0] != "apart":
        return met(gap, letter)
    _, path, beside, sign, n = gap
    one, other = naive.part_at(letter, path), naive.part_at(letter, beside)
    if (sign, n) == (1, 0):
        return one != other
    return other != sign * one + n


class Gaps(Case):
    def agrees(self, one, other, letters):
        gaps = gaps_between(one, other)
        for letter in letters:
            told = naive.gives(one, letter), naive.gives(other, letter)
            if None not in told:
                self.assertEqual(any(is_open(gap, letter) for gap in gaps), told[0] != told[1], (one, other, gaps, letter))

    def test_terms_that_never_give_the_same(self):
        for kind, one, other in (
            (INTEGERS, ("always", 1), ("always", 2)), (INTEGERS, ("plus", (), 1), ("plus", (), 2)), (INTEGERS, ("plus", (), 1), ("minus", (), 2)),
            (INTEGERS, ("some", READ), ("always", ("none",))), (INTEGERS, ("case", 0, READ), ("always", ("case", 1, "red"))),
            (INTEGERS, ("case", 0, READ), ("case", 1, ("always", "red"))), (INTEGERS, ("minus", (), 1), ("minus", (), -1)),
        ):
            self.agrees(one, other, letters_near(kind, 4))
            self.agrees(other, one, letters_near(kind, 4))
            self.assertTrue(gaps_between(one, other))

    def test_terms_that_always_give_the_same(self):
        for one, other in ((READ, ("plus", (), 0)), (("minus", (), 3), ("minus", (), 3)), (("always", 2), ("always", 2)),
                           (("some", READ), ("some", ("plus", (), 0))), (("pair", READ, READ), ("pair", ("plus", (), 0), READ))):
            self.same((gaps_between(one, other), gaps_between(other, one)), ([], []))

    def test_by_chance(self):
        for seed in range(600):
            chance = Writer(seed, 2)
            kind, other = chance.kind(), chance.kind()
            one, two = chance.term(kind, other), chance.term(kind, other)
            letters = [chance.letter(kind, 3) for _ in range(30)]
            self.agrees(one, two, letters)
            self.agrees(one, one, letters)

    def test_parts_that_may_be_missing(self):
        kind = ("pair", MAYBE, EITHER)
        letters = letters_near(kind, 2)
        terms = (("read", ("first",)), ("some", ("read", ("second", 0))), ("some", ("read", ("first", "some"))), ("some", ("always", 0)), ("always", ("none",)),
                 ("some", ("minus", ("second", 0), 1)), ("some", ("minus", ("first", "some"), 2)), ("some", ("plus", ("first", "some"), 1)))
        cases = (("read", ("second",)), ("case", 0, ("read", ("first", "some"))), ("case", 0, ("always", 1)), ("case", 1, ("always", "red")),
                 ("case", 1, ("read", ("second", 1))), ("always", ("case", 0, 1)), ("case", 0, ("minus", ("second", 0), 0)))
        for told in (terms, cases):
            for one in told:
                for other in told:
                    self.agrees(one, other, letters)


class FirstShared(Case):
    def test_by_chance(self):
        none = 0
        for seed in range(400):
            chance = Writer(seed, 3, (1, 2, 3, 4))
            kind = chance.kind(3, 5)
            one, other = chance.condition(kind, 6, False), chance.condition(kind, 6, False)
            letters = letters_near(kind, sum(span([one, other])))
            if len(letters) > 3000:
                continue
            wanted = next((a for a in letters if met(one, a) and met(other, a)), None)
            none += wanted is None
            self.same(first_shared(kind, set_of(kind, one), set_of(kind, other)), wanted)
        self.assertGreater(none, 30)

    def test_far_integers(self):
        one, other = set_of(INTEGERS, ("mod", 4, 1)), set_of(INTEGERS, ("and", ("mod", 3, 1), (">", 18)))
        self.same((first_shared(INTEGERS, one, other), first_shared(INTEGERS, other, one)), (25, 25))
        self.same(first_shared(INTEGERS, set_of(INTEGERS, ("<", -19)), set_of(INTEGERS, ("mod", 4, 3))), -21)


class Passed(Case):
    def test_states_on_ways_from_starts_to_ends(self):
        self.same(passed(5, (0,), (3,), [(0, 1), (1, 2), (2, 1), (1, 3), (4, 3), (0, 4), (2, 2)]), [0, 1, 2, 3, 4])
        self.same(passed(5, (0,), (3,), [(0, 1), (1, 3), (0, 2), (4, 3)]), [0, 1, 3])
        self.same((passed(2, (), (0, 1), [(0, 1)]), passed(2, (0,), (), [(0, 1)]), passed(2, (1,), (1,), [])), ([], [], [1]))
        self.same(moved_by(("plus", (), 3)), 3)


if __name__ == "__main__":
    unittest.main()

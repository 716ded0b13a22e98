"""Where terms part, and terms that are constant: [21], [173] and the interface of parting.py."""

import unittest

from guardwords.conditions import meets
from guardwords.errors import BadCondition, BadTerm
from guardwords.parting import constant, part
from guardwords.sets import letters_of
from guardwords.terms import before, gives, put_behind, there
from tests import naive_translations as naive
from tests.naive_translations import Writer, moved_by, paths_of
from tests.support import COLOURS, INTEGERS, NUMBERED, TAGGED, Case, letters_near, met, span

TRUE = ("true",)
EVEN = ("mod", 2, 0)
DOUBLED = ("pair", INTEGERS, INTEGERS)
TWICE = ("pair", COLOURS, COLOURS)
MAYBE = ("maybe", INTEGERS)
MAYBES = ("pair", MAYBE, MAYBE)
EITHER = ("either", (INTEGERS, INTEGERS))
TRIPLED = ("pair", DOUBLED, INTEGERS)
FIRST, SECOND = ("read", ("first",)), ("read", ("second",))


def parted(condition, one, other, letters):
    """The first of the letters at which the two terms part, by [173]."""
    for letter in letters:
        told = naive.gives(one, letter), naive.gives(other, letter)
        if met(condition, letter) and None not in told and told[0] != told[1]:
            return letter
    return None


class Parts(Case):
    def parts(self, kind, condition, other, one, two, wanted, reach=6):
        """The terms part at the letter that is wanted, whichever stands first."""
        self.same(part(kind, condition, other, one, two), wanted)
        self.same(part(kind, condition, other, two, one), wanted)
        self.same(parted(condition, one, two, letters_near(kind, reach)), wanted)

    def test_written_otherwise_and_the_same(self):
        for kind, condition, other, one, two in (
            (INTEGERS, TRUE, INTEGERS, ("read", ()), ("plus", (), 0)), (INTEGERS, ("=", 3), INTEGERS, ("read", ()), ("always", 3)),
            (INTEGERS, ("=", 2), INTEGERS, ("plus", (), 1), ("minus", (), 5)), (INTEGERS, ("=", 0), INTEGERS, ("minus", (), 0), ("read", ())),
            (NUMBERED, TRUE, NUMBERED, ("read", ()), ("pair", FIRST, SECOND)),
            (NUMBERED, ("first", ("is", "red")), NUMBERED, ("read", ()), ("pair", ("always", "red"), ("plus", ("second",), 0))),
            (TAGGED, ("second", ("some", TRUE)), TAGGED, ("read", ()), ("pair", FIRST, ("some", ("read", ("second", "some"))))),
            (TAGGED, ("second", ("none",)), TAGGED, ("read", ()), ("pair", FIRST, ("always", ("none",)))),
            (EITHER, ("case", 1, TRUE), EITHER, ("read", ()), ("case", 1, ("read", (1,)))),
            (EITHER, ("case", 0, ("=", 4)), EITHER, ("read", ()), ("always", ("case", 0, 4))),
            (INTEGERS, TRUE, TAGGED, ("pair", ("always", "red"), ("some", ("always", 2))), ("always", ("pair", "red", ("some", 2)))),
            (TWICE, ("and", ("first", ("is", "red")), ("second", ("is", "red"))), COLOURS, FIRST, SECOND),
            (DOUBLED, ("and", ("first", ("=", 3)), ("second", ("=", 5))), INTEGERS, FIRST, ("minus", ("second",), 8)),
            (INTEGERS, ("false",), INTEGERS, ("always", 1), ("always", 2)),
            (INTEGERS, ("and", EVEN, ("mod", 4, 1)), COLOURS, ("always", "red"), ("always", "blue")),
        ):
            self.parts(kind, condition, other, one, two, None)
            self.parts(kind, condition, other, one, one, None)

    def test_first_letters(self):
        for kind, condition, other, one, two, wanted in (
            (INTEGERS, TRUE, INTEGERS, ("read", ()), ("minus", (), 0), 1), (INTEGERS, TRUE, INTEGERS, ("plus", (), 1), ("plus", (), 2), 0),
            (INTEGERS, TRUE, INTEGERS, ("plus", (), 1), ("minus", (), 1), 1), (INTEGERS, TRUE, INTEGERS, ("plus", (), 1), ("minus", (), 2), 0),
            (INTEGERS, ("<", 0), INTEGERS, ("read", ()), ("minus", (), -2), -2), (INTEGERS, EVEN, INTEGERS, ("read", ()), ("always", 0), 2),
            (INTEGERS, ("or", ("=", 4), ("=", -6)), INTEGERS, ("minus", (), 4), ("always", 0), -6),
            (INTEGERS, (">", 3), COLOURS, ("always", "red"), ("always", "blue"), 4),
            (COLOURS, TRUE, COLOURS, ("read", ()), ("always", "red"), "blue"), (COLOURS, TRUE, COLOURS, ("read", ()), ("always", "blue"), "red"),
            (MAYBE, TRUE, MAYBE, ("read", ()), ("some", ("always", 0)), ("none",)),
            (MAYBE, TRUE, MAYBE, ("read", ()), ("always", ("none",)), ("some", 0)),
            (MAYBE, TRUE, MAYBE, ("read", ()), ("some", ("minus", ("some",), 0)), ("some", 1)),
            (EITHER, TRUE, EITHER, ("read", ()), ("case", 0, ("read", (0,))), None),
            (EITHER, TRUE, EITHER, ("read", ()), ("case", 0, ("always", 0)), ("case", 0, 1)),
            (EITHER, ("or", ("case", 1, EVEN), ("case", 0, ("=", 0))), EITHER, ("read", ()), ("case", 0, ("always", 0)), ("case", 1, 0)),
            (EITHER, TRUE, EITHER, ("case", 0, ("read", (1,))), ("case", 1, ("read", (1,))), ("case", 1, 0)),
            (INTEGERS, TRUE, MAYBE, ("some", ("read", ())), ("always", ("none",)), 0),
            (INTEGERS, TRUE, EITHER, ("case", 0, ("read", ())), ("always", ("case", 1, 0)), 0),
            (INTEGERS, TRUE, DOUBLED, ("pair", ("read", ()), ("read", ())), ("pair", ("minus", (), 0), ("plus", (), 0)), 1),
            (INTEGERS, TRUE, DOUBLED, ("pair", ("read", ()), ("always", 4)), ("pair", ("plus", (), 0), ("minus", (), 4)), 1),
            (NUMBERED, TRUE, NUMBERED, ("read", ()), ("pair", ("always", "red"), SECOND), ("pair", "blue", 0)),
        ):
            self.parts(kind, condition, other, one, two, wanted)

    def test_two_parts_of_a_letter(self):
        near = ("and", ("first", ("and", (">", 1), ("<", 4))), ("second", ("and", (">", 1), ("<", 4))))
        for condition, one, two, wanted in (
            (TRUE, FIRST, SECOND, ("pair", 0, 1)), (("second", ("=", 0)), FIRST, ("plus", ("second",), 0), ("pair", 1, 0)),
            (("first", ("=", 3)), FIRST, SECOND, ("pair", 3, 0)), (("and", ("first", ("=", 3)), ("second", (">", 2))), FIRST, SECOND, ("pair", 3, 4)),
            (near, FIRST, SECOND, ("pair", 2, 3)), (near, FIRST, ("minus", ("second",), 4), ("pair", 2, 3)),
            (near, FIRST, ("minus", ("second",), 5), ("pair", 2, 2)), (("and", near, ("second", EVEN)), FIRST, SECOND, ("pair", 3, 2)),
            (("and", near, ("second", EVEN)), ("plus", ("first",), 1), ("plus", ("second",), 1), ("pair", 3, 2)),
            (("and", ("second", ("=", 5)), ("first", (">", 4))), ("minus", ("first",), 2), ("minus", ("second",), 2), ("pair", 6, 5)),
            (("and", ("second", ("=", 5)), ("first", ("and", (">", 4), ("mod", 3, 2)))), FIRST, SECOND, ("pair", 8, 5)),
            (TRUE, ("plus", ("first",), 20), ("plus", ("second",), 20), ("pair", 0, 1)),
            (TRUE, ("plus", ("first",), 1), ("minus", ("second",), 2), ("pair", 0, 0)),
            (TRUE, FIRST, ("minus", ("second",), 0), ("pair", 0, 1)), (("second", ("=", 3)), ("minus", ("first",), 0), SECOND, ("pair", 0, 3)),
            (("and", ("second", ("=", 3)), ("first", ("<", -2))), ("minus", ("first",), 0), SECOND, ("pair", -4, 3)),
            (("and", ("second", ("=", 3)), ("first", (">", 2))), ("minus", ("first",), 0), SECOND, ("pair", 3, 3)),
            (("and", ("first", ("=", -3)), ("second", (">", 2))), FIRST, ("minus", ("second",), 0), ("pair", -3, 4)),
            (TRUE, ("plus", ("first",), 1), ("minus", ("second",), 1), ("pair", 0, 1)),
        ):
            self.parts(DOUBLED, condition, INTEGERS, one, two, wanted, 9)

    def test_parts_that_are_no_integers(self):
        for kind, condition, other, one, two, wanted in (
            (TWICE, TRUE, COLOURS, FIRST, SECOND, ("pair", "red", "blue")),
            (TWICE, ("second", ("is", "red")), COLOURS, FIRST, SECOND, ("pair", "blue", "red")),
            (MAYBES, TRUE, MAYBE, FIRST, SECOND, ("pair", ("none",), ("some", 0))),
            (MAYBES, ("second", ("none",)), MAYBE, FIRST, SECOND, ("pair", ("some", 0), ("none",))),
            (MAYBES, TRUE, INTEGERS, ("read", ("first", "some")), ("read", ("second", "some")), ("pair", ("some", 0), ("some", 1))),
            (MAYBES, ("second", ("some", ("=", 0))), INTEGERS, ("read", ("first", "some")), ("read", ("second", "some")),
             ("pair", ("some", 1), ("some", 0))),
            (MAYBES, ("second", ("none",)), INTEGERS, ("read", ("first", "some")), ("read", ("second", "some")), None),
            (("pair", NUMBERED, NUMBERED), TRUE, NUMBERED, FIRST, SECOND, ("pair", ("pair", "red", 0), ("pair", "red", 1))),
            (("pair", NUMBERED, NUMBERED), ("second", ("and", ("first", ("is", "red")), ("second", ("=", 0)))), NUMBERED, FIRST, SECOND,
             ("pair", ("pair", "red", 1), ("pair", "red", 0))),
            (EITHER, TRUE, INTEGERS, ("read", (0,)), ("read", (1,)), None),
            (EITHER, TRUE, INTEGERS, ("always", 3), ("plus", (1,), 3), ("case", 1, 1)),
        ):
            self.parts(kind, condition, other, one, two, wanted, 3)

    def test_a_part_between_that_is_free(self):
        # Endlessly many letters at which the terms do not part are before the first one at which they do.
        one, two = ("read", ("first", "first")), ("read", ("first", "second"))
        self.same(part(TRIPLED, TRUE, INTEGERS, one, two), ("pair", ("pair", 0, 1), 0))
        self.same(part(TRIPLED, ("second", (">", 3)), INTEGERS, one, two), ("pair", ("pair", 0, 1), 4))
        self.same(part(TRIPLED, TRUE, INTEGERS, one, ("read", ("second",))), ("pair", ("pair", 0, 0), 1))
        told = ("and", ("second", ("=", 0)), ("first", ("first", ("<", 1))))
        self.same(part(TRIPLED, told, INTEGERS, one, ("read", ("second",))), ("pair", ("pair", -1, 0), 0))

    def test_terms_that_are_not_both_there(self):
        some = ("read", ("second", "some"))
        self.parts(TAGGED, TRUE, INTEGERS, some, ("always", 0), ("pair", "red", ("some", 1)))
        self.parts(TAGGED, ("second", ("none",)), INTEGERS, some, ("always", 0), None)
        self.parts(TAGGED, ("first", ("is", "blue")), INTEGERS, some, ("minus", ("second", "some"), 2), ("pair", "blue", ("some", 0)))
        self.parts(EITHER, TRUE, INTEGERS, ("read", (1,)), ("minus", (1,), 0), ("case", 1, 1))

    def test_errors(self):
        for condition in (("is", "red"), ("and", ("false",), ("none",))):
            for terms in ((("read", ()), ("read", ())), (("always", "red"), ("read", ())), (("read", ()), ("always", "red"))):
                with self.refuses(BadCondition):
                    part(INTEGERS, condition, INTEGERS, *terms)
        for terms in ((("always", "red"), ("read", ())), (("read", ()), ("always", "red")), (("read", (0,)), ("read", ()))):
            with self.refuses(BadTerm):
                part(INTEGERS, TRUE, INTEGERS, *terms)
            with self.refuses(BadTerm):
                part(INTEGERS, ("false",), INTEGERS, *terms)

    def test_by_chance(self):
        kinds = (DOUBLED, MAYBES, TWICE, TRIPLED, ("pair", ("pair", INTEGERS, COLOURS), INTEGERS),
                 ("pair", EITHER, MAYBE), ("pair", ("pair", INTEGERS, COLOURS), ("pair", INTEGERS, COLOURS)))
        others = (INTEGERS, COLOURS, MAYBE, ("pair", INTEGERS, COLOURS), DOUBLED)
        seen = {"none": 0, "first": 0, "later": 0}
        for seed in range(1500):
            chance = Writer(seed, 2, (1, 2, 3))
            kind, other = chance.choice(kinds), chance.choice(others)
            one, two = chance.term(kind, other, 4, 2), chance.term(kind, other, 4, 2)
            condition = chance.condition(kind, chance.randint(3, 8))
            bound, period = span(condition)
            letters = letters_near(kind, bound + 2 * period + 2 * moved_by(one, two) + 1)
            if not paths_of(one) or not paths_of(two) or len(letters) > 1200:
                continue
            wanted = parted(condition, one, two, letters)
            first = next((a for a in letters if met(condition, a) and naive.gives(one, a) is not None
                          and naive.gives(two, a) is not None), None)
            seen["none" if wanted is None else "first" if wanted == first else "later"] += 1
            self.same(part(kind, condition, other, one, two), wanted)
        self.assertGreater(min(seen.values()), 20, seen)


class Constant(Case):
    def test_edges(self):
        for kind, condition, other, term, wanted in (
            (INTEGERS, ("=", 4), INTEGERS, ("plus", (), 1), 5), (INTEGERS, ("=", 4), INTEGERS, ("minus", (), 1), -3),
            (INTEGERS, EVEN, INTEGERS, ("plus", (), 1), None), (INTEGERS, ("false",), INTEGERS, ("always", 3), None),
            (INTEGERS, TRUE, INTEGERS, ("always", 3), 3), (INTEGERS, ("and", EVEN, ("mod", 4, 1)), COLOURS, ("always", "red"), None),
            (INTEGERS, ("and", (">", 2), ("<", 4)), INTEGERS, ("read", ()), 3), (INTEGERS, ("and", (">", 2), ("<", 5)), INTEGERS, ("read", ()), None),
            (INTEGERS, ("and", ("and", (">", 2), ("<", 5)), EVEN), INTEGERS, ("read", ()), 4),
            (COLOURS, ("not", ("is", "red")), COLOURS, ("read", ()), "blue"), (COLOURS, TRUE, COLOURS, ("read", ()), None),
            (NUMBERED, ("first", ("is", "red")), COLOURS, FIRST, "red"), (NUMBERED, ("first", ("is", "red")), INTEGERS, SECOND, None),
            (NUMBERED, ("first", ("is", "red")), NUMBERED, ("pair", FIRST, ("always", 2)), ("pair", "red", 2)),
            (NUMBERED, ("first", ("is", "red")), NUMBERED, ("pair", FIRST, SECOND), None),
            (NUMBERED, ("and", ("first", ("is", "red")), ("second", ("=", -7))), NUMBERED, ("read", ()), ("pair", "red", -7)),
            (MAYBE, ("none",), MAYBE, ("read", ()), ("none",)), (MAYBE, ("some", ("=", 1)), MAYBE, ("read", ()), ("some", 1)),
            (EITHER, ("case", 1, ("=", 4)), EITHER, ("case", 0, ("read", (1,))), ("case", 0, 4)),
            (DOUBLED, ("first", ("=", 4)), MAYBE, ("some", ("read", ("first",))), ("some", 4)),
            (INTEGERS, ("in", letters_of(INTEGERS, ("=", 9))), INTEGERS, ("plus", (), 1), 10),
        ):
            self.same(constant(kind, condition, other, term), wanted)

    def test_terms_that_are_not_there_for_some_letter(self):
        some = ("plus", ("some",), 0)
        for condition, wanted in (
            (("some", ("=", 4)), 4), (("or", ("none",), ("some", ("=", 4))), None), (("none",), None), (TRUE, None),
        ):
            self.same(constant(MAYBE, condition, INTEGERS, some), wanted)
        pair = ("pair", ("always", 3), ("read", ("some",)))
        self.same(constant(MAYBE, ("some", ("=", 4)), DOUBLED, pair), ("pair", 3, 4))
        self.assertIsNone(constant(MAYBE, ("or", ("none",), ("some", ("=", 4))), DOUBLED, pair))
        self.assertIsNone(constant(EITHER, ("or", ("case", 0, ("=", 4)), ("case", 1, ("=", 4))), INTEGERS, ("read", (0,))))

    def test_errors(self):
        with self.refuses(BadCondition):
            constant(INTEGERS, ("none",), INTEGERS, ("always", "red"))
        with self.refuses(BadCondition):
            constant(INTEGERS, ("and", ("false",), ("is", "red")), INTEGERS, ("read", ()))
        for term in (("always", "red"), ("read", ("first",)), ("some", ("read", ()))):
            with self.refuses(BadTerm):
                constant(INTEGERS, ("false",), INTEGERS, term)

    def test_by_chance(self):
        seen = [0, 0]
        for seed in range(600):
            chance = Writer(seed, 2, (1, 2, 3))
            kind, other = chance.kind(2, 4), chance.kind(2, 4)
            condition, term = chance.condition(kind), chance.term(kind, other)
            letters = letters_near(kind, sum(span(condition)) + 1)
            if len(letters) > 500:
                continue
            told = [naive.gives(term, letter) for letter in letters if met(condition, letter)]
            wanted = told[0] if told and all(letter == told[0] for letter in told) else None
            seen[wanted is None] += 1
            self.same(constant(kind, condition, other, term), wanted)
        self.assertGreater(min(seen), 60)


class PassedOn(Case):
    def test_returned_terms_and_conditions(self):
        for seed in range(150):
            chance = Writer(seed, 4, (1, 2, 3, 4))
            kind, other = chance.kind(), chance.kind()
            one, two, condition = chance.term(kind, other), chance.term(kind, other), chance.condition(other)
            told = before(kind, other, one, condition)
            letter = part(kind, told, other, one, two)
            self.same(part(kind, told, other, two, one), letter)
            if letter is not None:
                self.assertIs(meets(kind, told, letter), True)
                self.assertNotEqual(gives(one, letter), gives(two, letter))
            # Under the condition that both are there and give the same nothing parts.
            value = chance.letter(other)
            pinned = ("and", before(kind, other, one, ("in", letters_of(other, exactly(value)))),
                      before(kind, other, two, ("in", letters_of(other, exactly(value)))))
            self.assertIsNone(part(kind, pinned, other, one, two))
            self.assertIn(constant(kind, pinned, other, one), (value, None))
            behind = put_behind(one, ("read", ()))
            self.assertIsNone(part(kind, there(kind, one), other, one, behind))

    def test_the_same_question_has_the_same_answer(self):
        asked = [(DOUBLED, ("second", ("=", n)), INTEGERS, FIRST, ("plus", ("second",), m)) for n in (0, 3) for m in (0, 2)]
        before_it = [part(*question) for question in asked]
        self.same([part(*question) for question in asked[::-1]][::-1], before_it)


def exactly(letter):
    """A condition that this letter alone meets."""
    match letter:
        case str():
            return ("is", letter)
        case int():
            return ("=", letter)
        case ("pair", a, b):
            return ("and", ("first", exactly(a)), ("second", exactly(b)))
        case ("case", i, a):
            return ("case", i, exactly(a))
        case ("some", a):
            return ("some", exactly(a))
    return ("none",)


if __name__ == "__main__":
    unittest.main()

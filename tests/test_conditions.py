"""Conditions: [30] and the interface of conditions.py."""

import unittest

from guardwords.conditions import check_condition, meets
from guardwords.errors import BadCondition, BadLetter
from tests.support import COLOURS, INTEGERS, NUMBERED, TAGGED, Case, Chance, met, set_of, span, letters_near

TURNED = ("names", ("blue", "red"))
EITHER = ("either", (INTEGERS, COLOURS))
MAYBE = ("maybe", INTEGERS)
KINDS = (COLOURS, INTEGERS, NUMBERED, EITHER, MAYBE)
BIG = 10 ** 29

# Forms of the table of [30], with the kinds of KINDS that they fit.
FORMS = (
    (("true",), KINDS), (("false",), KINDS), (("is", "red"), (COLOURS,)), (("<", 2), (INTEGERS,)),
    (("=", -20), (INTEGERS,)), ((">", 0), (INTEGERS,)), (("mod", 4, 3), (INTEGERS,)),
    (("first", ("is", "blue")), (NUMBERED,)), (("second", ("<", 1)), (NUMBERED,)),
    (("case", 0, (">", 1)), (EITHER,)), (("case", 1, ("is", "red")), (EITHER,)), (("none",), (MAYBE,)),
    (("some", ("mod", 2, 0)), (MAYBE,)),
)
EVENS = ("integers", (-1, (False, True)), (), (0, (True, False)))
SETS = (
    (("names", ("red", "blue")), COLOURS), (("names", ("red",)), COLOURS), (EVENS, INTEGERS),
    (("pairs", ((("names", ("blue",)), EVENS),)), NUMBERED), (("either", (EVENS, ("names", ()))), EITHER),
    (("maybe", True, EVENS), MAYBE),
)


class Fits(Case):
    def check(self, kind, condition, fits):
        if fits:
            self.assertIsNone(check_condition(kind, condition))
        else:
            with self.refuses(BadCondition):
                check_condition(kind, condition)

    def test_each_form_fits_its_kinds_alone(self):
        for form, kinds in FORMS:
            for kind in KINDS:
                self.check(kind, form, kind in kinds)

    def test_names_that_the_kind_does_not_have(self):
        for name in ("green", "re", "redd"):
            self.check(COLOURS, ("is", name), False)

    def test_parts_that_do_not_fit(self):
        self.check(NUMBERED, ("first", ("<", 1)), False)
        self.check(NUMBERED, ("second", ("is", "red")), False)
        self.check(EITHER, ("case", 0, ("is", "red")), False)
        self.check(EITHER, ("case", 1, ("<", 0)), False)
        self.check(EITHER, ("case", 2, ("true",)), False)
        self.check(("either", (INTEGERS,)), ("case", 1, ("true",)), False)
        self.check(MAYBE, ("some", ("none",)), False)
        self.check(MAYBE, ("some", ("is", "red")), False)
        self.check(("maybe", MAYBE), ("some", ("none",)), True)

    def test_a_misfit_counts_wherever_it_stands(self):
        misfit = ("is", "green")
        for condition in (
            ("not", misfit), ("and", ("false",), misfit), ("and", misfit, ("false",)), ("or", ("true",), misfit),
            ("or", misfit, ("true",)), ("not", ("not", ("and", ("true",), ("or", misfit, ("true",))))),
        ):
            self.check(COLOURS, condition, False)
            self.check(NUMBERED, ("first", condition), False)
            self.check(NUMBERED, ("and", ("false",), ("first", condition)), False)
            self.check(EITHER, ("case", 1, condition), False)
            self.check(("maybe", COLOURS), ("or", ("none",), ("some", condition)), False)

    def test_in_fits_the_kinds_of_which_it_is_a_letter_set(self):
        for letters, own in SETS:
            for kind in KINDS:
                self.check(kind, ("in", letters), kind == own)
                self.check(kind, ("and", ("false",), ("in", letters)), kind == own)

    def test_letter_sets_of_kinds_with_other_names(self):
        self.check(TURNED, ("in", ("names", ("red", "blue"))), False)
        self.check(TURNED, ("in", ("names", ("blue", "red"))), True)
        self.check(TURNED, ("in", ("names", ("red",))), True)
        self.check(COLOURS, ("in", ("names", ("green",))), False)
        self.check(COLOURS, ("in", ("names", ())), True)
        self.check(("names", ("red",)), ("in", ("names", ("red", "blue"))), False)

    def test_rows_stand_in_the_order_of_the_kind(self):
        rows = ((("names", ("red",)), EVENS), (("names", ("blue",)), ("integers", (-1, (True,)), (), (0, (False,)))))
        self.check(NUMBERED, ("in", ("pairs", rows)), True)
        self.check(NUMBERED, ("in", ("pairs", rows[::-1])), False)
        self.check(("pair", TURNED, INTEGERS), ("in", ("pairs", rows)), False)
        self.check(("pair", TURNED, INTEGERS), ("in", ("pairs", rows[::-1])), True)
        self.check(("pair", TURNED, INTEGERS), ("in", ("pairs", rows[:1])), True)
        self.check(("pair", COLOURS, COLOURS), ("in", ("pairs", rows)), False)
        self.check(("pair", COLOURS, COLOURS), ("in", ("pairs", ())), True)

    def test_letter_sets_with_other_parts(self):
        self.check(("either", (INTEGERS,)), ("in", ("either", (EVENS, EVENS))), False)
        self.check(("either", (INTEGERS, INTEGERS, INTEGERS)), ("in", ("either", (EVENS, EVENS))), False)
        self.check(("either", (INTEGERS, INTEGERS)), ("in", ("either", (EVENS, EVENS))), True)
        self.check(("either", (INTEGERS, COLOURS)), ("in", ("either", (EVENS, EVENS))), False)
        self.check(("either", (COLOURS, INTEGERS)), ("in", ("either", (EVENS, EVENS))), False)
        self.check(("either", (COLOURS, INTEGERS)), ("in", ("either", (("names", ("blue",)), EVENS))), True)
        self.check(("maybe", COLOURS), ("in", ("maybe", False, EVENS)), False)
        self.check(("maybe", MAYBE), ("in", ("maybe", False, ("maybe", True, EVENS))), True)
        self.check(("pair", ("pair", COLOURS, INTEGERS), INTEGERS), ("in", ("pairs", ((SETS[3][0], EVENS),))), True)
        self.check(("pair", ("pair", INTEGERS, INTEGERS), INTEGERS), ("in", ("pairs", ((SETS[3][0], EVENS),))), False)

    def test_by_chance(self):
        for seed in range(200):
            chance = Chance(seed)
            kind, other = chance.kind(), chance.kind()
            condition = chance.condition(kind)
            self.check(kind, condition, True)
            self.check(("pair", kind, other), ("first", condition), True)
            self.check(("pair", other, kind), ("and", ("true",), ("second", condition)), True)
            letters = set_of(kind, chance.condition(kind, 3, False))
            self.check(kind, ("in", letters), True)


class Meets(Case):
    def test_each_form(self):
        for kind, condition, letter, wanted in (
            (COLOURS, ("true",), "red", True), (COLOURS, ("false",), "red", False),
            (COLOURS, ("is", "red"), "red", True), (COLOURS, ("is", "red"), "blue", False),
            (INTEGERS, ("not", ("=", 3)), 3, False), (INTEGERS, ("not", ("=", 3)), 4, True),
            (INTEGERS, ("<", 2), 1, True), (INTEGERS, ("<", 2), 2, False), (INTEGERS, ("<", -2), -BIG, True),
            (INTEGERS, ("=", -2), -2, True), (INTEGERS, ("=", -2), 2, False), (INTEGERS, (">", 2), 3, True),
            (INTEGERS, (">", 2), 2, False), (INTEGERS, (">", 2), BIG, True),
            (NUMBERED, ("first", ("is", "red")), ("pair", "red", 1), True),
            (NUMBERED, ("first", ("is", "red")), ("pair", "blue", 1), False),
            (NUMBERED, ("second", ("<", 1)), ("pair", "red", 0), True),
            (NUMBERED, ("second", ("<", 1)), ("pair", "red", 1), False),
            (EITHER, ("case", 0, (">", 1)), ("case", 0, 2), True), (EITHER, ("case", 0, (">", 1)), ("case", 0, 1), False),
            (EITHER, ("case", 0, ("true",)), ("case", 1, "red"), False),
            (EITHER, ("case", 1, ("is", "red")), ("case", 0, 5), False),
            (MAYBE, ("none",), ("none",), True), (MAYBE, ("none",), ("some", 0), False),
            (MAYBE, ("some", ("true",)), ("none",), False), (MAYBE, ("some", ("=", 0)), ("some", 0), True),
            (MAYBE, ("some", ("=", 0)), ("some", 1), False), (MAYBE, ("not", ("some", ("=", 0))), ("none",), True),
        ):
            self.assertIs(meets(kind, condition, letter), wanted, (condition, letter))

    def test_and_and_or(self):
        for one in (True, False):
            for other in (True, False):
                parts = tuple(("true",) if truth else ("false",) for truth in (one, other))
                self.assertIs(meets(INTEGERS, ("and",) + parts, 0), one and other)
                self.assertIs(meets(INTEGERS, ("or",) + parts, 0), one or other)

    def test_mod_for_integers_below_0(self):
        for m in range(1, 5):
            for r in range(m):
                for number in list(range(-13, 14)) + [BIG, -BIG, BIG + 1, -BIG - 1]:
                    wanted = (number - r) // m * m == number - r
                    self.assertIs(meets(INTEGERS, ("mod", m, r), number), wanted)

    def test_in(self):
        third = ("integers", (-2, (False, True, False)), (-1, 3), (7, (True, False)))
        for number, wanted in ((-1, True), (0, False), (3, True), (7, True), (8, False), (9, True), (-2, False),
                               (-3, True), (-4, False), (-6, True), (BIG + 1, True), (-3 - 3 * BIG, True)):
            self.assertIs(meets(INTEGERS, ("in", third), number), wanted)
        self.assertIs(meets(NUMBERED, ("in", SETS[3][0]), ("pair", "blue", 4)), True)
        self.assertIs(meets(NUMBERED, ("in", SETS[3][0]), ("pair", "blue", 5)), False)
        self.assertIs(meets(NUMBERED, ("in", SETS[3][0]), ("pair", "red", 4)), False)
        self.assertIs(meets(EITHER, ("in", SETS[4][0]), ("case", 1, "red")), False)
        self.assertIs(meets(MAYBE, ("in", SETS[5][0]), ("none",)), True)
        self.assertIs(meets(MAYBE, ("in", SETS[5][0]), ("some", 1)), False)
        self.assertIs(meets(COLOURS, ("in", ("names", ())), "red"), False)

    def test_errors_in_their_order(self):
        for condition, letter, error in (
            (("is", "green"), "green", BadCondition), (("is", "green"), "red", BadCondition),
            (("true",), "green", BadLetter), (("true",), 1, BadLetter), (("is", "red"), ("none",), BadLetter),
            (("and", ("false",), ("<", 1)), "red", BadCondition), (("in", EVENS), 2, BadCondition),
        ):
            with self.refuses(error):
                meets(COLOURS, condition, letter)
        with self.refuses(BadLetter):
            meets(TAGGED, ("first", ("is", "red")), ("pair", "red", 4))

    def test_by_chance(self):
        for seed in range(150):
            chance = Chance(seed, 3, (1, 2, 3))
            kind = chance.kind()
            condition = chance.condition(kind)
            for _ in range(12):
                letter = chance.letter(kind, chance.choice((4, 30, 10 ** 29)))
                self.assertIs(meets(kind, condition, letter), met(condition, letter))

    def test_spans_hold(self):
        """The tests rest on this: beyond N + L nothing new comes [52]."""
        for seed in range(60):
            chance = Chance(seed, 5, (1, 2, 3, 4))
            condition = chance.condition(INTEGERS)
            bound, period = span(condition)
            for number in letters_near(INTEGERS, bound + period):
                if abs(number) > bound:
                    further = number + 7 * period if number > 0 else number - 7 * period
                    self.assertIs(meets(INTEGERS, condition, number), meets(INTEGERS, condition, further))


if __name__ == "__main__":
    unittest.main()

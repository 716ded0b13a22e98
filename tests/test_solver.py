"""Exact answers about conditions: [50], [51], [52] and the interface of solver.py."""

import itertools
import unittest

from guardwords.conditions import meets
from guardwords.errors import BadCondition, BadLetter
from guardwords.letters import compared
from guardwords.sets import common, holds, letter_at, letters_of, next_letter
from guardwords.solver import classes, differing, first_letter, implies, together, twin
from tests.support import (
    COLOURS, INTEGERS, NUMBERED, TAGGED, Case, Chance, in_one_form, key, letters_near, met, set_of, span,
)

DOUBLED = ("pair", INTEGERS, INTEGERS)
EITHER = ("either", (INTEGERS, COLOURS))
MAYBE = ("maybe", INTEGERS)
EVEN = ("mod", 2, 0)
BIG = 10 ** 29
NO_NAMES = ("names", ())

MISFITS = (
    (INTEGERS, ("is", "red")), (INTEGERS, ("none",)), (INTEGERS, ("first", EVEN)), (COLOURS, ("is", "green")),
    (COLOURS, ("=", 0)), (NUMBERED, ("first", EVEN)), (EITHER, ("case", 2, ("true",))), (EITHER, ("case", 1, EVEN)),
    (MAYBE, ("some", ("is", "red"))), (INTEGERS, ("in", ("names", ("red",)))), (COLOURS, ("in", ("names", ("blue", "red")))),
    (INTEGERS, ("not", ("and", ("false",), ("or", ("true",), ("is", "red"))))), (TAGGED, ("second", ("some", ("none",)))),
)


def drawn(seeds, most=2, mods=(1, 2), limit=1500):
    for seed in seeds:
        chance = Chance(seed, most, mods)
        kind = chance.kind()
        if len(letters_near(kind, 5)) <= limit:
            yield chance, kind


def near(kind, *conditions):
    """The letters that stand for all letters, in their order."""
    return letters_near(kind, sum(span(conditions)))


def first(kind, conditions, wanted):
    """The first letter with the wanted truths of the conditions."""
    found = (letter for letter in near(kind, *conditions) if wanted(*[met(c, letter) for c in conditions]))
    return next(found, None)


class Refused(Case):
    """BadCondition from each function that takes a condition."""

    def test_alone(self):
        for kind, misfit in MISFITS:
            for call in (lambda: first_letter(kind, misfit), lambda: classes(kind, (misfit,)),
                         lambda: together(kind, (misfit,)), lambda: twin(kind, misfit, letters_near(kind, 0)[0])):
                with self.refuses(BadCondition):
                    call()

    def test_deep_within_and_beside_false(self):
        for kind, misfit in MISFITS:
            for condition in (("not", misfit), ("and", ("false",), misfit), ("or", ("true",), ("not", ("not", misfit)))):
                with self.refuses(BadCondition):
                    first_letter(kind, condition)
                with self.refuses(BadCondition):
                    first_letter(("maybe", kind), ("and", ("none",), ("some", condition)))

    def test_in_either_argument(self):
        for kind, misfit in MISFITS:
            for function in (implies, differing):
                for pair in ((misfit, ("true",)), (("true",), misfit), (("false",), misfit), (misfit, misfit)):
                    with self.refuses(BadCondition):
                        function(kind, *pair)

    def test_at_each_place_among_one_to_five(self):
        for kind, misfit in MISFITS:
            for many in range(1, 6):
                for at in range(many):
                    conditions = [("true",), ("false",), ("true",), ("false",), ("true",)][:many]
                    conditions[at] = misfit
                    for function in (classes, together):
                        with self.refuses(BadCondition):
                            function(kind, tuple(conditions))

    def test_answered_calls_before_and_behind(self):
        wanted = letters_of(INTEGERS, EVEN)
        for kind, misfit in MISFITS:
            with self.refuses(BadCondition):
                letters_of(kind, misfit)
            self.same(letters_of(INTEGERS, EVEN), wanted)
            self.same(first_letter(INTEGERS, ("not", EVEN)), 1)

    def test_twin_bad_condition_ahead_of_bad_letter(self):
        for condition, letter, error in (
            (("is", "green"), "green", BadCondition), (("is", "red"), "green", BadLetter), (("is", "red"), 3, BadLetter),
            (("=", 3), 3, BadCondition), (("true",), ("none",), BadLetter),
        ):
            with self.refuses(error):
                twin(COLOURS, condition, letter)


class FirstLetter(Case):
    def check(self, kind, condition, wanted):
        self.same(first_letter(kind, condition), wanted)

    def test_no_letter(self):
        for kind, condition in (
            (INTEGERS, ("false",)), (INTEGERS, ("and", EVEN, ("mod", 4, 1))), (INTEGERS, ("and", ("<", 3), (">", 2))),
            (COLOURS, ("and", ("is", "red"), ("is", "blue"))), (NUMBERED, ("first", ("false",))),
            (EITHER, ("and", ("case", 0, ("true",)), ("case", 1, ("true",)))), (MAYBE, ("and", ("none",), ("some", ("true",)))),
            (COLOURS, ("in", NO_NAMES)), (DOUBLED, ("in", ("pairs", ()))),
        ):
            self.check(kind, condition, None)

    def test_integers(self):
        for condition, wanted in (
            (("true",), 0), (("not", ("=", 0)), 1), (("<", 0), -1), ((">", 20), 21), (("<", -20), -21), (("mod", 4, 3), -1),
            (("mod", 4, 2), 2), (("mod", 3, 2), -1), (("and", ("<", 0), ("mod", 4, 2)), -2), (("=", -20), -20),
            (("and", (">", -20), ("and", ("<", -17), EVEN)), -18), (("and", ("mod", 3, 2), ("mod", 4, 1)), 5),
            (("and", ("mod", 2, 1), ("and", ("mod", 3, 0), ("mod", 4, 1))), -3),
            (("and", (">", 4), ("and", ("mod", 3, 0), ("mod", 4, 1))), 9), (("or", ("=", 3), ("=", -3)), 3),
            (("and", (">", 20), ("and", ("mod", 3, 2), ("mod", 4, 3))), 23),
        ):
            self.check(INTEGERS, condition, wanted)

    def test_names_in_another_order(self):
        for kind, wanted in ((COLOURS, "red"), (("names", ("blue", "red")), "blue"), (("names", ("x", "blue", "red")), "blue")):
            self.check(kind, ("or", ("is", "red"), ("is", "blue")), wanted)
            self.check(("maybe", kind), ("some", ("or", ("is", "red"), ("is", "blue"))), ("some", wanted))

    def test_parts_under_several_conditions(self):
        self.check(NUMBERED, ("and", ("second", (">", 3)), ("and", ("not", ("first", ("is", "red"))), ("second", EVEN))),
                   ("pair", "blue", 4))
        self.check(DOUBLED, ("and", ("or", ("first", ("=", 3)), ("second", ("=", 2))), ("not", ("first", ("=", 0)))),
                   ("pair", 1, 2))
        self.check(TAGGED, ("not", ("second", ("none",))), ("pair", "red", ("some", 0)))
        self.check(EITHER, ("not", ("case", 0, ("true",))), ("case", 1, "red"))

    def test_by_chance(self):
        for chance, kind in drawn(range(250)):
            condition = chance.condition(kind)
            self.check(kind, condition, first(kind, [condition], lambda one: one))

    def test_wide_numbers_by_chance(self):
        for seed in range(150):
            chance = Chance(seed, 20, (1, 2, 3, 4))
            kind = chance.choice((INTEGERS, NUMBERED, EITHER, TAGGED, DOUBLED))
            condition = chance.condition(kind)
            self.check(kind, condition, first(kind, [condition], lambda one: one))


class ImpliesAndDiffering(Case):
    def check(self, kind, one, other):
        self.assertIs(implies(kind, one, other), first(kind, [one, other], lambda p, q: p and not q) is None)
        self.assertIs(implies(kind, other, one), first(kind, [one, other], lambda p, q: q and not p) is None)
        wanted = first(kind, [one, other], lambda p, q: p != q)
        self.same(differing(kind, one, other), wanted)
        self.same(differing(kind, other, one), wanted)

    def test_itself_its_negation_and_the_same_written_otherwise(self):
        for chance, kind in drawn(range(100)):
            condition = chance.condition(kind)
            self.assertIs(implies(kind, condition, condition), True)
            self.assertIsNone(differing(kind, condition, condition))
            self.same(differing(kind, condition, ("not", condition)), letters_near(kind, 0)[0])
            for same in (("in", set_of(kind, condition)), ("not", ("not", condition)), ("and", condition, condition),
                         ("or", condition, ("and", ("true",), condition))):
                self.assertIs(implies(kind, condition, same), True)
                self.assertIs(implies(kind, same, condition), True)
                self.assertIsNone(differing(kind, condition, same))

    def test_one_with_no_letters(self):
        self.assertIs(implies(INTEGERS, ("false",), ("<", 0)), True)
        self.assertIs(implies(INTEGERS, ("<", 0), ("false",)), False)
        self.assertIs(implies(INTEGERS, ("<", 0), ("true",)), True)
        self.same(differing(INTEGERS, ("and", EVEN, ("mod", 4, 1)), ("false",)), None)

    def test_by_chance(self):
        for chance, kind in drawn(range(200)):
            self.check(kind, chance.condition(kind, 4), chance.condition(kind, 4))

    def test_wide_numbers_by_chance(self):
        for seed in range(60):
            chance = Chance(seed, 20, (1, 2, 3, 4))
            self.check(INTEGERS, chance.condition(INTEGERS, 5), chance.condition(INTEGERS, 5))


class Classes(Case):
    def check(self, kind, conditions):
        bound, period = span(conditions)
        wanted = []
        for letter in letters_near(kind, bound + period):
            truths = tuple(met(c, letter) for c in conditions)
            if truths not in wanted:
                wanted.append(truths)
        found = classes(kind, conditions)
        self.same(tuple(truths for truths, letters in found), tuple(wanted))
        for truths, letters in found:
            self.same(letters, in_one_form(
                kind, lambda a, truths=truths: tuple(met(c, a) for c in conditions) == truths, bound, period))

    def test_equal_conditions_and_negations(self):
        found = classes(INTEGERS, (EVEN, EVEN, ("not", EVEN), ("true",), ("false",)))
        self.same(found, (
            ((True, True, False, True, False), ("integers", (-1, (False, True)), (), (0, (True, False)))),
            ((False, False, True, True, False), ("integers", (-1, (True, False)), (), (0, (False, True))))))

    def test_one_class(self):
        self.same(classes(COLOURS, (("true",),)), (((True,), ("names", ("red", "blue"))),))
        self.same(classes(COLOURS, (("false",), ("true",))), (((False, True), ("names", ("red", "blue"))),))

    def test_order_and_disjoint(self):
        conditions = (("<", 0), ("mod", 3, 1), (">", 5), ("=", -2))
        found = classes(INTEGERS, conditions)
        firsts = [letter_at(INTEGERS, letters, 0) for truths, letters in found]
        self.assertEqual(firsts, sorted(firsts, key=lambda x: key(INTEGERS, x)))
        for (_, one), (_, other) in itertools.combinations(found, 2):
            self.same(common(INTEGERS, one, other), ("integers", (-1, (False,)), (), (0, (False,))))
        self.check(INTEGERS, conditions)

    def test_by_chance(self):
        for chance, kind in drawn(range(120), limit=200):
            self.check(kind, tuple(chance.condition(kind, 4) for _ in range(chance.randint(1, 5))))


class Together(Case):
    def check(self, kind, conditions):
        wanted = first(kind, conditions, lambda *truths: all(truths))
        if wanted is not None:
            self.same(together(kind, conditions), (wanted, None))
            return
        for count in range(1, len(conditions) + 1):
            for core in itertools.combinations(range(len(conditions)), count):
                if first(kind, [conditions[k] for k in core], lambda *truths: all(truths)) is None:
                    self.same(together(kind, conditions), (None, core))
                    return

    def test_cores(self):
        for conditions, core in (
            ((("false",),), (0,)), ((("true",), ("false",), ("false",)), (1,)),
            ((EVEN, ("mod", 4, 1), ("mod", 4, 3)), (0, 1)), ((("mod", 4, 1), (">", 0), EVEN, ("mod", 4, 3)), (0, 2)),
            (((">", 3), ("<", 6), ("not", ("=", 4)), ("true",), ("not", ("=", 5))), (0, 1, 2, 4)),
            ((("<", 0), (">", 0), ("=", 0)), (0, 1)),
        ):
            self.same(together(INTEGERS, conditions), (None, core))

    def test_five_of_which_each_four_go_together(self):
        conditions = ((">", 0), ("<", 5), ("not", ("=", 1)), ("not", ("mod", 3, 0)), ("not", ("or", ("=", 2), ("=", 4))))
        self.same(together(INTEGERS, conditions), (None, (0, 1, 2, 3, 4)))
        for left_out in range(5):
            four = conditions[:left_out] + conditions[left_out + 1:]
            self.assertIsNone(together(INTEGERS, four)[1])
            self.check(INTEGERS, four)

    def test_first_letter_of_all(self):
        self.same(together(INTEGERS, ((">", 4), ("<", 9), EVEN)), (6, None))
        self.same(together(NUMBERED, (("first", ("is", "blue")), ("second", ("<", 0)))), (("pair", "blue", -1), None))
        self.same(together(COLOURS, (("true",),)), ("red", None))

    def test_by_chance(self):
        for chance, kind in drawn(range(200), limit=200):
            self.check(kind, tuple(chance.condition(kind, chance.choice((1, 2, 3, 5))) for _ in range(chance.randint(1, 5))))


class Twins(Case):
    def near(self, number, bound, period):
        if abs(number) <= bound + period:
            return number
        sign = 1 if number > 0 else -1
        return next(sign * k for k in range(bound + 1, bound + period + 1) if (sign * k - number) % period == 0)

    def test_integers_around_the_bound(self):
        for condition in (("true",), ("=", 0), ("<", 5), (">", -5), ("mod", 4, 1), ("and", ("<", 5), ("mod", 3, 1)),
                          ("or", ("mod", 4, 0), ("and", ("mod", 3, 0), ("=", -7)))):
            bound, period = span(condition)
            for number in list(range(-40, 41)) + [BIG, -BIG, BIG + 5, -BIG - 7, 10 ** 30 - 1]:
                found = twin(INTEGERS, condition, number)
                self.same(found, self.near(number, bound, period))
                self.assertIs(meets(INTEGERS, condition, found), meets(INTEGERS, condition, number))
                self.assertLessEqual(compared(INTEGERS, found, number), 0)

    def test_every_place_of_a_letter(self):
        self.same(twin(DOUBLED, ("first", ("<", 2)), ("pair", 9, -9)), ("pair", 3, -3))
        self.same(twin(EITHER, ("case", 0, ("mod", 3, 1)), ("case", 0, 10)), ("case", 0, 1))
        self.same(twin(TAGGED, ("second", ("some", ("=", -4))), ("pair", "blue", ("some", -BIG))), ("pair", "blue", ("some", -5)))
        self.same(twin(TAGGED, ("true",), ("pair", "blue", ("none",))), ("pair", "blue", ("none",)))
        self.same(twin(COLOURS, ("is", "red"), "blue"), "blue")

    def test_numbers_of_cases_are_no_integers(self):
        kind = ("either", (COLOURS, COLOURS, INTEGERS))
        self.same(twin(kind, ("true",), ("case", 2, 7)), ("case", 2, 1))
        self.same(twin(kind, ("case", 2, ("true",)), ("case", 2, -7)), ("case", 2, -1))
        self.same(twin(kind, ("true",), ("case", 2, 0)), ("case", 2, 0))

    def test_letter_sets_in_the_condition(self):
        wide = ("integers", (-7, (False, True, False)), (-3, 9), (11, (True, False)))
        self.same(twin(INTEGERS, ("in", wide), 100), 16)
        self.same(twin(INTEGERS, ("in", wide), -100), -16)
        self.same(twin(INTEGERS, ("and", ("in", wide), ("mod", 4, 0)), 100), 16)
        within = ("pairs", ((("names", ("red",)), wide),))
        self.same(twin(NUMBERED, ("in", within), ("pair", "blue", 18)), ("pair", "blue", 12))
        for kind, letters in ((("maybe", NUMBERED), ("maybe", True, within)), (("either", (NUMBERED, COLOURS)), ("either", (within, NO_NAMES)))):
            letter = ("some", ("pair", "red", -18)) if kind[0] == "maybe" else ("case", 0, ("pair", "red", -18))
            self.same(repr(twin(kind, ("not", ("in", letters)), letter)), repr(letter).replace("-18", "-12"))

    def test_by_chance(self):
        for seed in range(200):
            chance = Chance(seed, 20, (1, 2, 3, 4))
            kind = chance.kind()
            condition = chance.condition(kind)
            letter = chance.letter(kind, chance.choice((40, 10 ** 30 - 1)))
            found = twin(kind, condition, letter)
            self.same(found, self.twin_of(kind, letter, *span(condition)))
            self.assertIs(meets(kind, condition, found), meets(kind, condition, letter))

    def twin_of(self, kind, letter, bound, period):
        head = kind[0]
        if head == "integers":
            return self.near(letter, bound, period)
        if head == "pair":
            return ("pair", *[self.twin_of(kind[k], letter[k], bound, period) for k in (1, 2)])
        if head == "either":
            return ("case", letter[1], self.twin_of(kind[1][letter[1]], letter[2], bound, period))
        if head == "maybe" and letter != ("none",):
            return ("some", self.twin_of(kind[1], letter[1], bound, period))
        return letter


class PassedOn(Case):
    def test_returned_sets_with_integers_up_to_1000(self):
        members = ("integers", (-1000, (False,)), (-999, 5, 998), (1000, (True, False, False)))
        letters = in_one_form(INTEGERS, lambda x: met(("in", members), x), *span(members))
        self.same(first_letter(INTEGERS, ("in", letters)), 5)
        self.same(first_letter(INTEGERS, ("and", ("in", letters), ("<", 0))), -999)
        self.same(first_letter(INTEGERS, ("and", ("in", letters), ("and", (">", 20), EVEN))), 998)
        self.same(differing(INTEGERS, ("in", letters), ("=", 5)), 998)
        self.same(first_letter(DOUBLED, ("and", ("first", ("in", letters)), ("second", ("not", ("in", letters))))), ("pair", 5, 0))
        parts = classes(INTEGERS, (("in", letters), EVEN))
        self.same(tuple(truths for truths, told in parts), ((False, True), (False, False), (True, False), (True, True)))
        for truths, told in parts:
            self.same(letters_of(INTEGERS, ("in", told)), told)
            self.same(next_letter(INTEGERS, told, 1000) is None, False)
            self.assertIs(holds(INTEGERS, told, letter_at(INTEGERS, told, 40)), True)

    def test_returned_letters(self):
        for seed in range(40):
            chance = Chance(seed, 20, (1, 2, 3, 4))
            kind = chance.kind()
            condition = chance.condition(kind)
            letter = first_letter(kind, condition)
            if letter is not None:
                self.assertIs(meets(kind, condition, letter), True)
                self.same(twin(kind, condition, letter), letter)

    def test_the_same_question_has_the_same_answer(self):
        told = [(kind, tuple(chance.condition(kind, 4) for _ in range(3))) for chance, kind in drawn(range(30))]
        before = [(classes(*one), together(*one)) for one in told]
        after = [(classes(*one), together(*one)) for one in reversed(told)][::-1]
        self.same(after, before)


if __name__ == "__main__":
    unittest.main()

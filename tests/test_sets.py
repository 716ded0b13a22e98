"""Letter sets in their one form: [40], [41], [42], [44], and how sets.py makes and joins them."""

import unittest

from guardwords.conditions import check_condition, meets
from guardwords.errors import BadCondition, BadLetter
from guardwords.letters import kind_at, part_at
from guardwords.sets import common, condition_of, holds, letters_of, projected, remaining, united
from tests.support import COLOURS, INTEGERS, NUMBERED, TAGGED, Case, Chance, in_one_form, letters_near, met, set_of, span

DOUBLED = ("pair", INTEGERS, INTEGERS)
EITHER = ("either", (INTEGERS, COLOURS))
MAYBE = ("maybe", INTEGERS)
NO_INTEGERS = ("integers", (-1, (False,)), (), (0, (False,)))
ALL_INTEGERS = ("integers", (-1, (True,)), (), (0, (True,)))


def either_of(*conditions):
    """A condition that is met if one of these is."""
    told = conditions[0]
    for condition in conditions[1:]:
        told = ("or", told, condition)
    return told


def forms_in(condition):
    """The heads of all conditions in the condition."""
    return [condition[0]] + [head for part in condition[1:] if isinstance(part, tuple) for head in forms_in(part)]


def drawn(seeds, most=2, mods=(1, 2)):
    """Chances with kinds whose letters with small integers are not too many to go through."""
    for seed in seeds:
        chance = Chance(seed, most, mods)
        kind = chance.kind()
        if len(letters_near(kind, 7)) <= 700:
            yield chance, kind


class OfIntegers(Case):
    def check(self, condition, wanted):
        self.same(letters_of(INTEGERS, condition), wanted)

    def test_none_and_all(self):
        for condition in (("false",), ("not", ("true",)), ("and", ("<", 3), (">", 2)),
                          ("and", ("mod", 2, 0), ("mod", 4, 1))):
            self.check(condition, NO_INTEGERS)
            self.check(("not", condition), ALL_INTEGERS)
        self.check(("or", ("mod", 2, 0), ("mod", 2, 1)), ALL_INTEGERS)
        self.check(("mod", 1, 0), ALL_INTEGERS)

    def test_less_equal_greater(self):
        self.check(("<", 3), ("integers", (-1, (True,)), (0, 1, 2), (3, (False,))))
        self.check(("<", 0), ("integers", (-1, (True,)), (), (0, (False,))))
        self.check(("<", -4), ("integers", (-5, (True,)), (), (0, (False,))))
        self.check((">", 3), ("integers", (-1, (False,)), (), (4, (True,))))
        self.check((">", -4), ("integers", (-4, (False,)), (-3, -2, -1), (0, (True,))))
        self.check((">", -1), ("integers", (-1, (False,)), (), (0, (True,))))
        self.check(("=", 0), ("integers", (-1, (False,)), (0,), (1, (False,))))
        self.check(("=", 20), ("integers", (-1, (False,)), (20,), (21, (False,))))
        self.check(("=", -1), ("integers", (-2, (False,)), (-1,), (0, (False,))))
        self.check(("not", ("=", -20)), ("integers", (-21, (True,)), tuple(range(-19, 0)), (0, (True,))))

    def test_remainders(self):
        self.check(("mod", 2, 1), ("integers", (-1, (True, False)), (), (0, (False, True))))
        self.check(("mod", 3, 0), ("integers", (-1, (False, False, True)), (), (0, (True, False, False))))
        self.check(("mod", 4, 3), ("integers", (-1, (True, False, False, False)), (), (0, (False, False, False, True))))

    def test_remainders_that_make_a_shorter_tuple(self):
        self.check(("or", ("mod", 4, 1), ("mod", 4, 3)), letters_of(INTEGERS, ("mod", 2, 1)))
        self.check(("and", ("not", ("mod", 4, 0)), ("not", ("mod", 4, 2))), letters_of(INTEGERS, ("mod", 2, 1)))
        self.check(either_of(("mod", 3, 0), ("mod", 3, 1), ("mod", 3, 2)), ALL_INTEGERS)

    def test_remainders_of_2_3_and_4_joined(self):
        for condition, size in (
            (("and", ("mod", 2, 0), ("mod", 3, 0)), 6), (("and", ("mod", 3, 1), ("mod", 4, 1)), 12),
            (("or", ("mod", 3, 1), ("mod", 4, 1)), 12), (("and", ("mod", 2, 1), ("mod", 4, 1)), 4),
            (either_of(("mod", 2, 0), ("mod", 3, 0), ("mod", 4, 1)), 12),
        ):
            found = letters_of(INTEGERS, condition)
            self.same(found, set_of(INTEGERS, condition))
            self.assertEqual((len(found[1][1]), len(found[3][1])), (size, size))

    def test_different_tails(self):
        condition = ("or", ("and", ("<", -2), ("mod", 3, 0)), ("and", (">", 5), ("mod", 4, 0)))
        self.check(condition, ("integers", (-1, (False, False, True)), (), (5, (False, False, False, True))))
        condition = ("or", ("and", ("<", 4), ("mod", 2, 0)), ("=", 9))
        self.check(condition, ("integers", (-1, (False, True)), (0, 2, 9), (10, (False,))))

    def test_low_and_high_are_as_near_to_0_as_can_be(self):
        self.check(("and", ("mod", 2, 0), (">", 3)), ("integers", (-1, (False,)), (), (3, (False, True))))
        self.check(("or", ("mod", 2, 0), ("=", 7)), ("integers", (-1, (False, True)), (0, 2, 4, 6, 7), (8, (True, False))))
        self.check(("and", ("mod", 3, 2), ("not", ("=", -4))),
                   ("integers", (-5, (False, False, True)), (-1,), (0, (False, False, True))))

    def test_finite_sets_are_members_alone(self):
        self.check(("and", (">", -4), ("<", 3)), ("integers", (-4, (False,)), (-3, -2, -1, 0, 1, 2), (3, (False,))))
        self.check(("and", ("and", (">", -20), ("<", 20)), ("mod", 4, 2)),
                   ("integers", (-19, (False,)), tuple(range(-18, 20, 4)), (19, (False,))))

    def test_letter_sets_in_the_condition(self):
        for size in (1, 2, 3, 4, 6, 12):
            above = (True,) + (False,) * (size - 1)
            letters = ("integers", (-1, (False,)), (), (0, above))
            self.check(("in", letters), letters)
            self.check(("not", ("not", ("in", letters))), letters)
            self.check(("or", ("in", letters), ("mod", 2, 0)), set_of(INTEGERS, ("or", ("in", letters), ("mod", 2, 0))))
            self.check(("and", ("in", letters), ("mod", 4, 1)), set_of(INTEGERS, ("and", ("in", letters), ("mod", 4, 1))))

    def test_by_chance(self):
        for seed in range(150):
            chance = Chance(seed, 20, (1, 2, 3, 4))
            condition = chance.condition(INTEGERS)
            self.check(condition, set_of(INTEGERS, condition))


class OfOtherKinds(Case):
    def test_names(self):
        kind = ("names", ("b", "c", "a"))
        self.same(letters_of(kind, ("not", ("is", "c"))), ("names", ("b", "a")))
        self.same(letters_of(kind, ("or", ("is", "a"), ("is", "b"))), ("names", ("b", "a")))
        self.same(letters_of(kind, ("false",)), ("names", ()))

    def test_either_and_maybe(self):
        self.same(letters_of(EITHER, ("case", 1, ("is", "blue"))), ("either", (NO_INTEGERS, ("names", ("blue",)))))
        self.same(letters_of(EITHER, ("not", ("case", 1, ("is", "blue")))), ("either", (ALL_INTEGERS, ("names", ("red",)))))
        self.same(letters_of(EITHER, ("false",)), ("either", (NO_INTEGERS, ("names", ()))))
        self.same(letters_of(MAYBE, ("none",)), ("maybe", True, NO_INTEGERS))
        self.same(letters_of(MAYBE, ("not", ("none",))), ("maybe", False, ALL_INTEGERS))
        self.same(letters_of(MAYBE, ("not", ("some", ("true",)))), ("maybe", True, NO_INTEGERS))
        self.same(letters_of(MAYBE, ("some", ("<", 0))), ("maybe", False, letters_of(INTEGERS, ("<", 0))))

    def test_no_pairs_and_all_pairs(self):
        self.same(letters_of(DOUBLED, ("false",)), ("pairs", ()))
        self.same(letters_of(DOUBLED, ("first", ("false",))), ("pairs", ()))
        self.same(letters_of(DOUBLED, ("and", ("first", ("<", 0)), ("second", ("and", ("=", 1), ("=", 2))))), ("pairs", ()))
        self.same(letters_of(DOUBLED, ("true",)), ("pairs", ((ALL_INTEGERS, ALL_INTEGERS),)))

    def test_rows_in_the_order_of_their_first_letters(self):
        condition = either_of(("and", ("first", ("=", 5)), ("second", ("=", 0))),
                              ("and", ("first", ("=", -1)), ("second", ("=", 1))),
                              ("and", ("first", ("=", 2)), ("second", ("=", 2))))
        found = letters_of(DOUBLED, condition)
        self.same(found, set_of(DOUBLED, condition))
        self.same([row[0][2] for row in found[1]], [(-1,), (2,), (5,)])
        self.same([row[1][2] for row in found[1]], [(1,), (2,), (0,)])

    def test_names_in_another_order_give_other_rows(self):
        condition = ("or", ("first", ("is", "red")), ("second", ("=", 0)))
        for kind, order in ((NUMBERED, ("red", "blue")), (("pair", ("names", ("blue", "red")), INTEGERS), ("blue", "red"))):
            found = letters_of(kind, condition)
            self.same(tuple(row[0][1][0] for row in found[1]), order)
            self.same(found, set_of(kind, condition))

    def test_equal_rows_are_one(self):
        condition = ("or", ("and", ("first", ("<", -3)), ("second", ("=", 1))),
                     ("and", ("first", (">", 3)), ("second", ("=", 1))))
        self.same(letters_of(DOUBLED, condition), ("pairs", ((
            ("integers", (-4, (True,)), (), (4, (True,))), letters_of(INTEGERS, ("=", 1))),)))

    def test_equal_sets_have_equal_letter_sets(self):
        for kind, one, other in (
            (INTEGERS, ("<", 3), ("not", (">", 2))), (INTEGERS, ("mod", 2, 0), ("not", ("mod", 2, 1))),
            (NUMBERED, ("first", ("is", "red")), ("not", ("first", ("is", "blue")))),
            (NUMBERED, ("first", ("true",)), ("or", ("second", ("<", 1)), ("second", (">", 0)))),
            (MAYBE, ("none",), ("not", ("some", ("true",)))),
            (EITHER, ("case", 0, ("true",)), ("not", ("or", ("case", 1, ("is", "red")), ("case", 1, ("is", "blue"))))),
        ):
            self.same(letters_of(kind, one), letters_of(kind, other))

    def test_by_chance(self):
        for chance, kind in drawn(range(150)):
            condition = chance.condition(kind)
            found = letters_of(kind, condition)
            self.same(found, set_of(kind, condition))
            self.same(letters_of(kind, ("in", found)), found)
            self.same(letters_of(kind, ("not", ("and", ("not", condition), ("true",)))), found)

    def test_wide_pairs_by_chance(self):
        for seed in range(12):
            chance = Chance(seed, 20, (1, 2, 3, 4))
            condition = chance.condition(NUMBERED)
            self.same(letters_of(NUMBERED, condition), set_of(NUMBERED, condition))

    def test_bad_conditions(self):
        for kind, condition in ((INTEGERS, ("is", "red")), (COLOURS, ("and", ("false",), ("<", 1))),
                                (INTEGERS, ("in", ("names", ("red",)))), (NUMBERED, ("first", ("=", 0)))):
            with self.refuses(BadCondition):
                letters_of(kind, condition)
            self.same(letters_of(INTEGERS, ("false",)), NO_INTEGERS)


class ConditionOf(Case):
    def check(self, kind, letters):
        condition = condition_of(kind, letters)
        self.assertNotIn("in", forms_in(condition))
        self.assertIsNone(check_condition(kind, condition))
        self.same(letters_of(kind, condition), letters)

    def test_sets_of_each_kind(self):
        for kind, condition in (
            (COLOURS, ("true",)), (COLOURS, ("false",)), (COLOURS, ("is", "blue")), (INTEGERS, ("true",)),
            (INTEGERS, ("false",)), (INTEGERS, ("or", ("mod", 3, 1), ("=", 2))), (EITHER, ("false",)),
            (EITHER, ("true",)), (EITHER, ("case", 0, ("mod", 4, 2))), (MAYBE, ("none",)), (MAYBE, ("false",)),
            (MAYBE, ("not", ("some", ("<", 2)))), (DOUBLED, ("false",)), (DOUBLED, ("true",)),
            (DOUBLED, either_of(*[("and", ("first", ("=", k)), ("second", ("<", k))) for k in range(4)])),
        ):
            self.check(kind, letters_of(kind, condition))

    def test_by_chance(self):
        for chance, kind in drawn(range(150)):
            self.check(kind, letters_of(kind, chance.condition(kind)))

    def test_it_tells_of_integers_far_away(self):
        for seed in range(40):
            chance = Chance(seed, 20, (1, 2, 3, 4))
            told = chance.condition(INTEGERS)
            condition = condition_of(INTEGERS, letters_of(INTEGERS, told))
            for number in [chance.randint(-10 ** 9, 10 ** 9) for _ in range(5)]:
                self.assertIs(meets(INTEGERS, condition, number), met(told, number))

    def test_many_members_do_not_make_it_deep(self):
        letters = letters_of(INTEGERS, ("in", ("integers", (-1000, (False,)), tuple(range(-999, 1000, 2)), (1000, (False,)))))
        self.same(letters[2], tuple(range(-999, 1000, 2)))
        self.check(INTEGERS, letters)


class Joined(Case):
    def test_holds(self):
        evens = letters_of(INTEGERS, ("mod", 2, 0))
        for number in (0, 2, -2, 10 ** 29, 1, -1, 10 ** 29 + 1):
            self.assertIs(holds(INTEGERS, evens, number), number % 2 == 0)
        some = letters_of(TAGGED, ("second", ("none",)))
        self.assertIs(holds(TAGGED, some, ("pair", "red", ("none",))), True)
        self.assertIs(holds(TAGGED, some, ("pair", "red", ("some", 1))), False)

    def test_holds_refuses_letters_of_other_kinds(self):
        for kind, condition, letter in (
            (INTEGERS, ("true",), "red"), (COLOURS, ("false",), "green"), (COLOURS, ("true",), 0),
            (TAGGED, ("true",), ("pair", "red", 4)), (MAYBE, ("none",), ("some", "red")), (EITHER, ("true",), ("none",)),
        ):
            with self.refuses(BadLetter):
                holds(kind, letters_of(kind, condition), letter)

    def test_laws(self):
        for chance, kind in drawn(range(120)):
            told = [chance.condition(kind) for _ in range(3)]
            a, b, c = [letters_of(kind, condition) for condition in told]
            none, whole = letters_of(kind, ("false",)), letters_of(kind, ("true",))
            self.same(common(kind, a, b), set_of(kind, ("and", told[0], told[1])))
            self.same(united(kind, a, b), set_of(kind, ("or", told[0], told[1])))
            self.same(remaining(kind, a), set_of(kind, ("not", told[0])))
            self.same(common(kind, b, a), common(kind, a, b))
            self.same(united(kind, b, a), united(kind, a, b))
            self.same(common(kind, a, a), a)
            self.same(united(kind, a, a), a)
            self.same(common(kind, a, remaining(kind, a)), none)
            self.same(united(kind, a, remaining(kind, a)), whole)
            self.same(remaining(kind, remaining(kind, a)), a)
            self.same(remaining(kind, common(kind, a, b)), united(kind, remaining(kind, a), remaining(kind, b)))
            self.same(remaining(kind, united(kind, a, b)), common(kind, remaining(kind, a), remaining(kind, b)))
            self.same(common(kind, a, united(kind, b, c)), united(kind, common(kind, a, b), common(kind, a, c)))
            self.same(united(kind, a, common(kind, b, c)), common(kind, united(kind, a, b), united(kind, a, c)))
            for _ in range(5):
                letter = chance.letter(kind)
                self.assertIs(holds(kind, a, letter), met(told[0], letter))

    def test_integers_up_to_1000(self):
        one = ("integers", (-1000, (True, False)), (-500, 7), (1000, (False, False, True)))
        other = ("integers", (-1, (False,)), (3, 7, 999), (1000, (True,)))
        one, other = [in_one_form(INTEGERS, lambda x, told=told: met(("in", told), x), *span(told)) for told in (one, other)]
        for found, condition in (
            (common(INTEGERS, one, other), ("and", ("in", one), ("in", other))),
            (united(INTEGERS, other, one), ("or", ("in", one), ("in", other))),
            (remaining(INTEGERS, one), ("not", ("in", one))),
        ):
            self.same(found, set_of(INTEGERS, condition))
            self.same(letters_of(INTEGERS, condition_of(INTEGERS, found)), found)
        pairs = letters_of(DOUBLED, ("or", ("first", ("in", one)), ("second", ("in", other))))
        self.same([row[0] for row in pairs[1]], [remaining(INTEGERS, one), one])
        self.same([row[1] for row in pairs[1]], [other, ALL_INTEGERS])
        self.same(remaining(DOUBLED, remaining(DOUBLED, pairs)), pairs)


class Projected(Case):
    def naive(self, kind, letters, path):
        """The projection, by going over letters near 0."""
        bound, period = span(letters)
        near = [letter for letter in letters_near(kind, bound + period) if met(("in", letters), letter)]
        parts = {part_at(letter, path) for letter in near}
        below = kind_at(kind, path)

        def inside(part):
            return self.folded(below, part, bound, period) in parts
        return in_one_form(below, inside, bound, period)

    def folded(self, kind, letter, bound, period):
        """The letter with its integers drawn near to 0 [52]."""
        head = kind[0]
        if head == "integers":
            while abs(letter) > bound + period:
                letter += -period if letter > 0 else period
            return letter
        if head == "pair":
            return ("pair", *[self.folded(kind[k], letter[k], bound, period) for k in (1, 2)])
        if head == "either":
            return ("case", letter[1], self.folded(kind[1][letter[1]], letter[2], bound, period))
        if head == "maybe" and letter != ("none",):
            return ("some", self.folded(kind[1], letter[1], bound, period))
        return letter

    def test_each_step(self):
        pairs = letters_of(NUMBERED, ("or", ("first", ("is", "red")), ("second", ("=", 0))))
        self.same(projected(NUMBERED, pairs, ("first",)), ("names", ("red", "blue")))
        self.same(projected(NUMBERED, pairs, ("second",)), ALL_INTEGERS)
        self.same(projected(NUMBERED, pairs, ()), pairs)
        cases = letters_of(EITHER, ("case", 0, ("<", 0)))
        self.same(projected(EITHER, cases, (0,)), letters_of(INTEGERS, ("<", 0)))
        self.same(projected(EITHER, cases, (1,)), ("names", ()))
        self.same(projected(MAYBE, letters_of(MAYBE, ("none",)), ("some",)), NO_INTEGERS)
        self.same(projected(MAYBE, letters_of(MAYBE, ("true",)), ("some",)), ALL_INTEGERS)
        self.same(projected(DOUBLED, ("pairs", ()), ("second",)), NO_INTEGERS)

    def test_a_part_that_is_not_always_there(self):
        letters = letters_of(TAGGED, ("or", ("second", ("none",)), ("second", ("some", ("mod", 2, 1)))))
        self.same(projected(TAGGED, letters, ("second", "some")), letters_of(INTEGERS, ("mod", 2, 1)))

    def test_several_rows(self):
        kind = ("pair", DOUBLED, INTEGERS)
        condition = either_of(("and", ("first", ("first", ("=", 0))), ("second", ("=", 5))),
                              ("and", ("first", ("second", ("=", 1))), ("second", (">", 7))))
        letters = letters_of(kind, condition)
        self.assertGreater(len(letters[1]), 1)
        self.same(projected(kind, letters, ("second",)), letters_of(INTEGERS, ("or", ("=", 5), (">", 7))))
        self.same(projected(kind, letters, ("first", "first")), ALL_INTEGERS)
        self.same(projected(kind, letters, ("first",)), letters_of(DOUBLED, ("or", ("first", ("=", 0)), ("second", ("=", 1)))))

    def test_by_chance(self):
        for chance, kind in drawn(range(100)):
            letters = letters_of(kind, chance.condition(kind))
            path = ()
            while kind_at(kind, path) is not None:
                self.same(projected(kind, letters, path), self.naive(kind, letters, path))
                steps = [step for step in ("first", "second", "some", 0, 1, 2) if kind_at(kind, path + (step,))]
                path += (chance.choice(steps or ["first"]),)


class Again(Case):
    def test_the_same_question_has_the_same_answer(self):
        told = [(kind, chance.condition(kind)) for chance, kind in drawn(range(40))]
        before = [letters_of(kind, condition) for kind, condition in told]
        after = [letters_of(kind, condition) for kind, condition in reversed(told)][::-1]
        self.same(after, before)


if __name__ == "__main__":
    unittest.main()

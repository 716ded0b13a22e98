"""Expressions: [150], [151], [152] and the interface of expressions.py."""

import itertools
import unittest

from guardwords.errors import BadCondition, BadLetter
from guardwords.expressions import (
    check_expression, derivative, derivatives, expression_classes, means, same_meaning, to_expression, to_machine)
from guardwords.forms import determined, first_words, least
from guardwords.joining import both_take, followed, not_taken, one_takes, repeated
from guardwords.machines import takes
from guardwords.sets import holds, letters_of
from tests import naive, naive_languages
from tests.naive_languages import conditions, expression_by, letters_for, meant, size, some_letters
from tests.naive_words import words_up_to
from tests.support import COLOURS, INTEGERS, NUMBERED, TAGGED, Case, Chance, set_of

EVEN = ("mod", 2, 0)
ODD = ("not", EVEN)
SMALL = ("<", 0)
TRUE = ("true",)
BIG = 10 ** 29 + 1
AB = ("names", ("a", "b"))
VOID, EMPTY = ("void",), ("empty",)
E, O, S, A, B = ("letter", EVEN), ("letter", ODD), ("letter", SMALL), ("letter", ("is", "a")), ("letter", ("is", "b"))
EITHER = ("either", (INTEGERS, COLOURS))
MISFITS = {
    INTEGERS: (("is", "a"), ("first", EVEN), ("and", ("false",), ("none",)), ("in", ("names", ()))),
    AB: (("is", "c"), EVEN, ("or", TRUE, ("not", ("some", TRUE))), ("in", ("names", ("b", "a")))),
    TAGGED: (("first", ("is", "green")), ("second", EVEN), ("is", "red"), ("and", ("false",), ("case", 0, TRUE))),
}


def places(expression):
    """The expression with a hole in the place of each expression in it that has no parts, as functions."""
    if not naive_languages.parts(expression):
        yield lambda told: told
    for at, part in enumerate(expression[1:]):
        if expression[0] != "letter":
            for fill in places(part):
                yield lambda told, at=at, fill=fill: expression[:at + 1] + (fill(told),) + expression[at + 2:]


def drawn(seeds, many=8, kinds=(AB, INTEGERS, COLOURS, ("maybe", INTEGERS), NUMBERED)):
    """Expressions over kinds of which few letters stand for all."""
    for seed in seeds:
        chance = Chance(seed, 2, (1, 2))
        kind = chance.choice(kinds)
        yield chance, kind, expression_by(chance, kind, chance.randint(1, many), 2)


def some_words(chance, kind, *expressions):
    """Words near the conditions in the expressions, and some far from them."""
    letters = letters_for(kind, *expressions)
    short = [tuple(chance.choice(letters) for _ in range(chance.randint(0, 5))) for _ in range(10)]
    return short + [(), chance.word(kind, 3, BIG), (chance.letter(kind, 2),)]


class Fitting(Case):
    def test_conditions_that_fit(self):
        for expression in (VOID, EMPTY, E, ("not", ("star", ("then", E, ("and", O, ("or", VOID, S))))), ("letter", ("false",))):
            self.assertIsNone(check_expression(INTEGERS, expression))
        self.assertIsNone(check_expression(TAGGED, ("letter", ("first", ("is", "red")))))

    def test_a_misfit_at_each_place(self):
        shapes = (
            E, ("not", E), ("star", E), ("then", E, EMPTY), ("or", VOID, E), ("and", VOID, ("then", VOID, E)),
            ("then", ("or", E, E), ("star", ("not", E))), ("and", ("star", ("star", E)), ("or", E, ("then", VOID, EMPTY))),
        )
        count = 0
        for kind, misfits in MISFITS.items():
            for shape in shapes:
                for fill, misfit in itertools.product(places(shape), misfits):
                    wrong = fill(("letter", misfit))
                    count += 1
                    for call in (
                        lambda: check_expression(kind, wrong), lambda: means(kind, wrong, ()),
                        lambda: means(kind, wrong, ("strange", ("none",))), lambda: derivative(kind, wrong, 0),
                        lambda: derivative(kind, wrong, ("strange",)), lambda: expression_classes(kind, wrong),
                        lambda: derivatives(kind, wrong), lambda: to_machine(kind, wrong),
                        lambda: same_meaning(kind, wrong, VOID), lambda: same_meaning(kind, VOID, wrong),
                        lambda: same_meaning(kind, wrong, wrong),
                    ):
                        with self.refuses(BadCondition):
                            call()
        self.assertGreater(count, 100)

    def test_bad_letters_at_each_place(self):
        for kind, good, bad in (
            (INTEGERS, BIG, "red"), (INTEGERS, 0, ("some", 0)), (COLOURS, "red", "green"), (AB, "a", 1),
            (TAGGED, ("pair", "red", ("none",)), ("pair", "red", 4)), (EITHER, ("case", 1, "red"), ("case", 0, "red")),
            (TAGGED, ("pair", "red", ("some", BIG)), ("pair", ("none",), ("some", 1))),
        ):
            for expression in (VOID, EMPTY, ("letter", TRUE), ("not", VOID), ("star", ("letter", ("false",)))):
                for length in (1, 3, 8):
                    for at in range(length):
                        with self.refuses(BadLetter):
                            means(kind, expression, (good,) * at + (bad,) + (good,) * (length - at - 1))
                with self.refuses(BadLetter):
                    derivative(kind, expression, bad)
                self.assertIs(means(kind, ("not", VOID), (good,)), True)
                self.same(derivative(kind, ("letter", TRUE), good), EMPTY)


class Means(Case):
    def test_each_form(self):
        for expression, word, wanted in (
            (VOID, (), False), (VOID, (1,), False), (EMPTY, (), True), (EMPTY, (0,), False), (E, (), False), (E, (2,), True),
            (E, (3,), False), (E, (2, 2), False), (("or", E, O), (3,), True), (("or", E, S), (3,), False),
            (("and", E, S), (-2,), True), (("and", E, S), (2,), False), (("not", E), (2,), False), (("not", E), (), True),
            (("not", E), (2, 2), True), (("then", E, O), (2, 3), True), (("then", E, O), (3, 2), False), (("then", E, O), (2,), False),
            (("then", EMPTY, E), (2,), True), (("then", E, VOID), (2,), False), (("star", E), (), True), (("star", E), (2, 4), True),
            (("star", E), (2, 3), False), (("star", VOID), (), True), (("star", VOID), (1,), False), (("star", EMPTY), (), True),
            (("not", ("star", E)), (2, 2, 3), True), (("then", ("not", E), ("not", O)), (2,), True),
            (("and", ("not", VOID), ("not", EMPTY)), (), False),
        ):
            self.assertIs(means(INTEGERS, expression, word), wanted, (expression, word))

    def test_a_star_in_a_star(self):
        pairs = ("star", ("then", E, O))
        for expression in (("star", pairs), ("star", ("star", pairs)), ("star", ("or", pairs, EMPTY)), ("then", pairs, pairs)):
            for word, wanted in (((), True), ((2, 3), True), ((2, 3, 4, 5), True), ((2, 3, 4), False), ((3, 2), False)):
                self.assertIs(means(INTEGERS, expression, word), wanted)
        self.assertIs(means(INTEGERS, ("star", ("then", ("star", E), O)), (2, 4, 3, 5, 6, 7)), True)
        self.assertIs(means(INTEGERS, ("star", ("then", ("star", E), O)), (2, 4, 3, 5, 6)), False)

    def test_eight_letters_and_long_integers(self):
        third = ("then", ("star", ("letter", TRUE)), ("then", E, ("then", ("letter", TRUE), ("letter", TRUE))))
        self.assertIs(means(INTEGERS, third, (1, 3, 5, 7, 9, BIG - 1, BIG, -BIG)), True)
        self.assertIs(means(INTEGERS, third, (2, 4, 6, 8, 10, BIG, BIG - 1, 0)), False)
        self.assertIs(means(INTEGERS, ("star", S), (-BIG,) * 8), True)
        self.assertIs(means(INTEGERS, ("star", S), (-BIG,) * 7 + (BIG,)), False)

    def test_deep_expressions(self):
        for many in (50, 99, 199):
            told = E
            for _ in range(many):
                told = ("not", told)
            self.assertIs(means(INTEGERS, told, (2,)), many % 2 == 0)
            self.assertEqual(to_machine(INTEGERS, told) == to_machine(INTEGERS, E), many % 2 == 0)
            self.assertIs(means(INTEGERS, derivative(INTEGERS, told, 2), ()), many % 2 == 0)
        left, right = E, E
        for _ in range(90):
            left, right = ("then", left, ("star", O)), ("then", ("star", O), right)
        for word, wanted in (((2,), True), ((2, 3, 3), False), ((3, 3, 2), True), ((2, 2), False)):
            self.assertIs(means(INTEGERS, right, word), wanted)
            self.assertIs(means(INTEGERS, left, word[::-1]), wanted)
        self.same(same_meaning(INTEGERS, left, ("then", E, ("star", O))), None)
        self.same(same_meaning(INTEGERS, right, left), (0, 1))

    def test_by_chance(self):
        for chance, kind, expression in drawn(range(300)):
            for word in some_words(chance, kind, expression):
                self.assertIs(means(kind, expression, word), meant(expression, word), (expression, word))


class Derivative(Case):
    def test_each_form(self):
        star = ("star", ("letter", SMALL))
        for expression, letter, wanted in (
            (VOID, 1, VOID), (EMPTY, 1, VOID), (E, 2, EMPTY), (E, 3, VOID), (("or", E, S), 2, ("or", EMPTY, VOID)),
            (("and", E, EMPTY), -2, ("and", EMPTY, VOID)), (("not", E), 3, ("not", VOID)), (star, -1, ("then", EMPTY, star)),
            (("then", E, star), 2, ("then", EMPTY, star)), (("then", star, E), 2, ("or", ("then", ("then", VOID, star), E), EMPTY)),
            (("then", ("not", E), VOID), 2, ("or", ("then", ("not", EMPTY), VOID), VOID)), (("not", VOID), 5, ("not", VOID)),
            (("then", ("and", star, EMPTY), E), 2, ("or", ("then", ("and", ("then", VOID, star), VOID), E), EMPTY)),
            (("star", star), -1, ("then", ("then", EMPTY, star), ("star", star))), (("letter", ("false",)), 1, VOID),
            (("letter", ("and", EVEN, SMALL)), -4, EMPTY),
        ):
            self.same(derivative(INTEGERS, expression, letter), wanted)

    def test_by_chance_and_again(self):
        count = 0
        for chance, kind, expression in drawn(range(200)):
            word = ()
            told = expression
            while size(told) <= 200 and len(word) < 5:
                letter = chance.letter(kind, chance.choice((2, BIG)))
                wanted = naive_languages.derivative(told, letter)
                told = derivative(kind, told, letter)
                self.same(told, wanted)
                word += (letter,)
                if size(told) <= 60:
                    for behind in some_words(chance, kind, expression)[:4]:
                        self.assertIs(means(kind, told, behind), meant(expression, word + behind))
                count += 1
        self.assertGreater(count, 500)

    def test_all_kinds(self):
        for seed in range(100):
            chance = Chance(seed, 20, (1, 2, 3, 4))
            kind = chance.kind()
            expression = expression_by(chance, kind, 8, 4)
            letter = chance.letter(kind, 30)
            self.same(derivative(kind, expression, letter), naive_languages.derivative(expression, letter))


class Classes(Case):
    def test_without_letters(self):
        for expression in (VOID, EMPTY, ("not", VOID), ("star", ("then", EMPTY, ("or", VOID, EMPTY)))):
            for kind in (INTEGERS, AB, TAGGED, EITHER):
                self.same(expression_classes(kind, expression), (letters_of(kind, TRUE),))

    def test_order_and_one_form(self):
        self.same(expression_classes(INTEGERS, ("then", E, ("star", S))), tuple(letters_of(INTEGERS, told) for told in (
            ("and", EVEN, ("not", SMALL)), ("and", ODD, ("not", SMALL)), ("and", ODD, SMALL), ("and", EVEN, SMALL))))
        self.same(expression_classes(INTEGERS, ("letter", TRUE)), (letters_of(INTEGERS, TRUE),))
        self.same(expression_classes(INTEGERS, ("or", E, ("not", E))), (letters_of(INTEGERS, EVEN), letters_of(INTEGERS, ODD)))
        self.same(expression_classes(AB, B), (("names", ("a",)), ("names", ("b",))))

    def test_by_chance(self):
        for chance, kind, expression in drawn(range(150)):
            told = conditions(expression)
            classes = {}
            for letter in letters_for(kind, expression):
                classes.setdefault(tuple(naive.met(c, letter) for c in told), []).append(letter)
            found = expression_classes(kind, expression)
            self.assertEqual(len(found), len(classes))
            for letters, wanted in zip(found, classes.values()):
                self.assertEqual([a for a in letters_for(kind, expression) if holds(kind, letters, a)], wanted)
                self.same(letters, set_of(kind, ("in", letters)))
                derived = [derivative(kind, expression, letter) for letter in wanted]
                self.same(derived, derived[:1] * len(derived))


class Derivatives(Case):
    def test_words_and_trees(self):
        self.same(derivatives(INTEGERS, VOID), (((), VOID),))
        self.same(derivatives(INTEGERS, ("not", VOID)), (((), ("not", VOID)),))
        self.same(derivatives(INTEGERS, EMPTY), (((), EMPTY), ((0,), VOID)))
        self.same(derivatives(AB, ("then", B, A)), (
            ((), ("then", B, A)), (("a",), ("then", VOID, A)), (("b",), ("then", EMPTY, A)),
            (("b", "a"), ("or", ("then", VOID, A), EMPTY))))
        star = ("star", ("then", E, O))
        self.same(derivatives(INTEGERS, star), (
            ((), star), ((0,), ("then", ("then", EMPTY, O), star)), ((1,), ("then", ("then", VOID, O), star))))

    def test_first_words_and_least_forms(self):
        for chance, kind, expression in drawn(range(150)):
            found = derivatives(kind, expression)
            machine = to_machine(kind, expression)
            self.assertEqual(len(found), machine[1])
            self.same(tuple(word for word, _ in found), first_words(machine))
            for word, told in found:
                wanted = expression
                for letter in word:
                    wanted = naive_languages.derivative(wanted, letter)
                self.same(told, wanted)

    def test_by_all_words(self):
        # Over two names the sets are told apart by words of up to five letters.
        words = list(words_up_to(("a", "b"), 5))
        count = 0
        for chance, kind, expression in drawn(range(120), 6, (AB,)):
            sets = {}
            for word in words_up_to(("a", "b"), 4):
                sets.setdefault(tuple(meant(expression, word + behind) for behind in words), word)
            if max(len(word) for word in sets.values()) < 4:
                count += 1
                self.same(tuple(word for word, _ in derivatives(kind, expression)), tuple(sets.values()))
        self.assertGreater(count, 80)


class Machines(Case):
    def test_least_forms_of_the_same_words(self):
        last_even = (INTEGERS, 2, (0,), (1,), ((0, TRUE, 0), (0, EVEN, 1)))
        one_even = (INTEGERS, 2, (0,), (1,), ((0, EVEN, 1),))
        for expression, machine in (
            (VOID, (INTEGERS, 1, (), (), ())), (EMPTY, (INTEGERS, 1, (0,), (0,), ())), (E, one_even),
            (("then", ("star", ("letter", TRUE)), E), last_even), (("star", E), repeated(one_even)),
            (("not", ("then", ("not", VOID), E)), not_taken(last_even)), (("or", EMPTY, E), one_takes(one_even, (INTEGERS, 1, (0,), (0,), ()))),
            (("and", ("then", ("not", VOID), E), ("not", E)), both_take(last_even, not_taken(one_even))),
            (("then", E, E), followed(one_even, one_even)), (("letter", ("and", EVEN, ("mod", 4, 1))), (INTEGERS, 1, (), (), ())),
        ):
            self.same(to_machine(INTEGERS, expression), least(machine))

    def test_by_chance(self):
        for chance, kind, expression in drawn(range(250)):
            machine = to_machine(kind, expression)
            self.same(least(machine), machine)
            for word in some_words(chance, kind, expression):
                self.assertIs(takes(machine, word), meant(expression, word))

    def test_third_last(self):
        third = ("then", ("star", ("letter", TRUE)), ("then", E, ("then", ("letter", TRUE), ("letter", TRUE))))
        self.assertEqual(size(third), 8)
        machine = (INTEGERS, 4, (0,), (3,), ((0, TRUE, 0), (0, EVEN, 1), (1, TRUE, 2), (2, TRUE, 3)))
        self.same(to_machine(INTEGERS, third), least(machine))
        self.assertEqual(len(derivatives(INTEGERS, third)), 8)

    def test_expressions_of_machines(self):
        for chance, machine in naive.drawn(range(200)):
            told = to_expression(machine)
            self.assertIsNone(check_expression(machine[0], told))
            self.assertLessEqual(size(told), 200)
            self.same(to_machine(machine[0], told), least(machine))
            for word in some_words(chance, machine[0], told):
                self.assertIs(means(machine[0], told, word), naive.taken(machine, word))

    def test_machines_of_one_to_four_states(self):
        for many in (1, 2, 3, 4):
            for starts, ends in (((), (0,)), ((0,), ()), ((0,), (0,)), (tuple(range(many)), tuple(range(many))), ((many - 1,), (0,))):
                ring = tuple((k, EVEN, (k + 1) % many) for k in range(many))
                dense = tuple((p, ("=", p * many + q), q) for p in range(many) for q in range(many))
                for steps in ((), ring, dense, ring + ring, ((0, ("and", EVEN, ("mod", 4, 1)), 0),)):
                    machine = (INTEGERS, many, starts, ends, steps)
                    told = to_expression(machine)
                    self.same(to_machine(INTEGERS, told), least(machine))

    def test_all_kinds(self):
        for seed in range(80):
            chance = Chance(seed, 20, (1, 2, 3, 4))
            machine = chance.machine(chance.kind())
            told = to_expression(machine)
            self.same(to_machine(machine[0], told), least(machine))
            if least(machine)[1] <= 4:
                for one in (to_expression(least(machine)), to_expression(determined(least(machine)))):
                    self.assertIsNone(same_meaning(machine[0], one, told))


class SameMeaning(Case):
    def test_laws(self):
        for chance, kind, e in drawn(range(60), 4):
            f = expression_by(chance, kind, 4)
            for one, other in (
                (("or", e, f), ("or", f, e)), (("not", ("not", e)), e), (("not", ("or", e, f)), ("and", ("not", e), ("not", f))),
                (("then", EMPTY, e), e), (("then", e, VOID), VOID), (("star", ("star", e)), ("star", e)),
                (("star", e), ("or", EMPTY, ("then", e, ("star", e)))), (("star", ("or", e, f)), ("star", ("then", ("star", e), ("star", f)))),
                (("then", ("star", ("then", e, f)), e), ("then", e, ("star", ("then", f, e)))),
                (("not", VOID), ("star", ("letter", TRUE))), (e, ("or", e, e)), (e, e),
            ):
                self.assertIsNone(same_meaning(kind, one, other))
                self.assertIsNone(same_meaning(kind, other, one))

    def test_first_words(self):
        for one, other, word in (
            (E, O, (0,)), (E, ("or", E, ("letter", ("=", -7))), (-7,)), (EMPTY, VOID, ()), (("star", E), ("then", E, ("star", E)), ()),
            (("star", E), ("or", EMPTY, ("or", E, ("then", E, E))), (0, 0, 0)), (("then", E, S), ("then", S, E), (0, -1)),
            (("not", E), ("not", S), (0,)),
        ):
            self.same(same_meaning(INTEGERS, one, other), word)
            self.same(same_meaning(INTEGERS, other, one), word)

    def test_by_chance(self):
        seen = []
        for chance, kind, e in drawn(range(200), 6):
            f = expression_by(chance, kind, 6)
            found = same_meaning(kind, e, f)
            self.same(same_meaning(kind, f, e), found)
            differing = (word for word in words_up_to(some_letters(kind, e, f), 3) if meant(e, word) != meant(f, word))
            wanted = next(differing, None)
            if found is None or len(found) <= 3:
                self.same(found, wanted)
            else:
                self.assertNotEqual(meant(e, found), meant(f, found))
                self.assertIsNone(wanted)
            self.assertEqual(found is None, to_machine(kind, e) == to_machine(kind, f))
            seen.append(found)
        self.assertGreater(seen.count(None), 5)


class PassedOn(Case):
    def test_returned_expressions(self):
        for chance, kind, expression in drawn(range(100)):
            for word, told in derivatives(kind, expression):
                if size(told) <= 200:
                    rest = [found for _, found in derivatives(kind, told)]
                    self.assertLessEqual(len(rest), len(derivatives(kind, expression)))
                    self.assertIsNone(check_expression(kind, told))
                    self.assertGreaterEqual(len(expression_classes(kind, told)), 1)
                    self.assertIsNone(same_meaning(kind, told, ("not", ("not", told))))

    def test_returned_machines(self):
        for chance, kind, expression in drawn(range(100)):
            machine = to_machine(kind, expression)
            if machine[1] <= 4:
                told = to_expression(machine)
                if size(told) <= 200:
                    self.assertIsNone(same_meaning(kind, told, expression))
                    self.same(len(derivatives(kind, told)), machine[1])
                for word in some_words(chance, kind, expression):
                    self.assertIs(means(kind, told, word), meant(expression, word))

    def test_the_same_question_has_the_same_answer(self):
        def answers(kind, expression):
            return (derivatives(kind, expression), to_machine(kind, expression), expression_classes(kind, expression),
                    to_expression((kind, 2, (0,), (1,), ((0, TRUE, 1), (1, TRUE, 0)))))

        told = [(kind, expression) for _, kind, expression in drawn(range(40))]
        before = [answers(*two) for two in told]
        after = [answers(*two) for two in told[::-1]][::-1]
        self.same(after, before)


if __name__ == "__main__":
    unittest.main()

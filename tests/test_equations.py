"""Equations: [160], [161] and the interface of equations.py."""

import unittest

from guardwords.equations import first_failure, greatest_solution, least_solution, second_solution
from guardwords.errors import BadCondition
from guardwords.expressions import check_expression, derivative, means, same_meaning, to_expression, to_machine
from tests.naive_languages import conditions, expression_by, meant, right_sides, size, solution, some_letters
from tests.naive_words import words_up_to
from tests.support import INTEGERS, NUMBERED, TAGGED, Case, Chance

EVEN = ("mod", 2, 0)
TRUE = ("true",)
AB = ("names", ("a", "b"))
VOID, EMPTY = ("void",), ("empty",)
ALL = ("not", VOID)
E, O, S, A, B = ("letter", EVEN), ("letter", ("not", EVEN)), ("letter", ("<", 0)), ("letter", ("is", "a")), ("letter", ("is", "b"))
CALLS = (least_solution, greatest_solution, second_solution)


def drawn(seeds, kinds=(AB, AB, INTEGERS)):
    """Equations with one or two unknowns, with coefficients that often mean the word without letters."""
    for seed in seeds:
        chance = Chance(seed, 1, (1, 2))
        kind = chance.choice(kinds)
        many = chance.choice((1, 2, 2))

        def factor():
            told = chance.random()
            if told < 0.2:
                return VOID
            if told < 0.35:
                return EMPTY
            return expression_by(chance, kind, chance.choice((1, 2, 4)), 1)

        yield chance, kind, tuple(
            (tuple(factor() for _ in range(many)), expression_by(chance, kind, 4, 1)) for _ in range(many))


def all_in(equations):
    return [expression for coefficients, told in equations for expression in (*coefficients, told)]


def words_for(kind, equations, length=3):
    """Words over the first letters of the classes of the equations, of which not too many are taken."""
    letters = some_letters(kind, *all_in(equations))[:4]
    return list(words_up_to(letters, length))


class Solutions(Case):
    def check(self, kind, equations, words):
        least, greatest = least_solution(kind, equations), greatest_solution(kind, equations)
        for found, sets in ((least, solution(equations, words, False)), (greatest, solution(equations, words, True))):
            self.assertEqual(len(found), len(equations))
            for expression, told in zip(found, sets):
                self.assertIsNone(check_expression(kind, expression))
                for word in words:
                    self.assertIs(means(kind, expression, word), word in told, (equations, word))
            self.assertIsNone(first_failure(kind, equations, found))
        for one, other in zip(least, greatest):
            self.assertIsNone(same_meaning(kind, ("or", one, other), other))
        self.check_second(kind, equations, least, greatest)
        return least, greatest

    def check_second(self, kind, equations, least, greatest):
        told = second_solution(kind, equations)
        words = [same_meaning(kind, one, other) for one, other in zip(least, greatest)]
        differing = [(at, word) for at, word in enumerate(words) if word is not None]
        self.same(told, differing[0] if differing else None)
        if told is not None:
            self.assertIs(means(kind, greatest[told[0]], told[1]), True)
            self.assertIs(means(kind, least[told[0]], told[1]), False)

    def test_one_unknown(self):
        for factor, told, wanted, greatest in (
            (E, EMPTY, ("star", E), None), (VOID, O, O, None), (EMPTY, O, O, ALL), (E, VOID, VOID, None),
            (("star", E), O, ("then", ("star", E), O), ALL), (("or", E, EMPTY), VOID, VOID, ALL),
            (("then", E, O), ("or", E, EMPTY), ("then", ("star", ("then", E, O)), ("or", E, EMPTY)), None),
            (("not", ("not", EMPTY)), E, E, ALL), (ALL, E, ("then", ALL, E), ALL),
        ):
            equations = (((factor,), told),)
            least, most = self.check(INTEGERS, equations, words_for(INTEGERS, equations))
            self.assertIsNone(same_meaning(INTEGERS, least[0], wanted))
            self.assertIsNone(same_meaning(INTEGERS, most[0], wanted if greatest is None else greatest))
            self.assertEqual(second_solution(INTEGERS, equations) is None, greatest is None)

    def test_two_unknowns(self):
        # Words with an even and with an odd number of letters a.
        equations = (((B, A), EMPTY), ((A, B), VOID))
        least, greatest = self.check(AB, equations, words_for(AB, equations, 5))
        self.assertIsNone(second_solution(AB, equations))
        self.assertIsNone(same_meaning(AB, least[0], ("not", least[1])))
        self.assertIs(means(AB, greatest[1], ("a", "b", "a", "a")), True)

    def test_an_unknown_that_comes_back_through_the_other_one(self):
        for equations, second in (
            ((((VOID, EMPTY), A), ((EMPTY, VOID), B)), (0, ())),
            ((((VOID, EMPTY), A), ((("or", EMPTY, A), VOID), B)), (0, ())),
            ((((A, EMPTY), A), ((B, VOID), B)), None),
            ((((VOID, EMPTY), VOID), ((VOID, EMPTY), B)), (0, ())),
            ((((A, VOID), VOID), ((VOID, EMPTY), B)), (1, ())),
            ((((A, EMPTY), A), ((VOID, ("star", B)), ("then", B, A))), (0, ())),
            ((((A, VOID), EMPTY), ((EMPTY, EMPTY), ("not", EMPTY))), None),
            ((((VOID, A), EMPTY), ((VOID, ("star", B)), A)), (0, ("a",))),
        ):
            self.check(AB, equations, words_for(AB, equations, 4))
            self.same(second_solution(AB, equations), second)

    def test_void_coefficients(self):
        equations = (((VOID, VOID), E), ((VOID, VOID), O))
        least, greatest = self.check(INTEGERS, equations, words_for(INTEGERS, equations))
        self.assertIsNone(second_solution(INTEGERS, equations))
        self.assertIsNone(same_meaning(INTEGERS, least[1], O))
        never = ("letter", ("and", EVEN, ("mod", 4, 1)))
        equations = (((("then", EMPTY, never), EMPTY), E), ((("and", EMPTY, E), never), O))
        self.check(INTEGERS, equations, words_for(INTEGERS, equations))

    def test_by_chance(self):
        seen = []
        for chance, kind, equations in drawn(range(250)):
            self.check(kind, equations, words_for(kind, equations))
            seen.append(second_solution(kind, equations) is None)
        self.assertGreater(min(seen.count(True), seen.count(False)), 50)

    def test_all_kinds(self):
        for seed in range(60):
            chance = Chance(seed, 20, (1, 2, 3, 4))
            kind = chance.kind()
            equations = tuple(
                (tuple(expression_by(chance, kind, 4, 4) for _ in range(2)), expression_by(chance, kind, 4, 4)) for _ in range(2))
            least, greatest = least_solution(kind, equations), greatest_solution(kind, equations)
            self.assertIsNone(first_failure(kind, equations, least))
            self.assertIsNone(first_failure(kind, equations, greatest))
            self.check_second(kind, equations, least, greatest)


class Failures(Case):
    def test_where_it_fails(self):
        equations = (((E, VOID), EMPTY), ((E, VOID), O))
        for expressions, wanted in (
            ((("star", E), ("or", O, ("then", E, ("star", E)))), None), ((EMPTY, VOID), (0, (0,))),
            ((("star", E), VOID), (1, (0,))), ((("star", E), O), (1, (0,))), ((VOID, VOID), (0, ())),
            ((ALL, ALL), (0, (1,))), ((("star", E), ("or", O, ("star", E))), (1, ())),
        ):
            self.same(first_failure(INTEGERS, equations, expressions), wanted)

    def test_by_chance(self):
        seen = []
        for chance, kind, equations in drawn(range(250)):
            told = chance.choice((
                least_solution(kind, equations), greatest_solution(kind, equations),
                tuple(expression_by(chance, kind, chance.choice((2, 8)), 1) for _ in equations)))
            at = chance.randrange(len(told))
            if chance.random() < 0.5:
                told = told[:at] + (chance.choice((VOID, ALL, ("or", told[at], EMPTY), ("star", told[at]))),) + told[at + 1:]
            found = first_failure(kind, equations, told)
            words = words_for(kind, (*equations, *[((), one) for one in told]))
            sets = [{word for word in words if meant(one, word)} for one in told] if size_of(told) < 40 else [
                {word for word in words if means(kind, one, word)} for one in told]
            sides = right_sides(equations, sets, words)
            wrong = [(i, word) for i in range(len(told)) for word in words if (word in sets[i]) != (word in sides[i])]
            if found is None:
                self.assertEqual(wrong, [])
            elif wrong and found[0] == wrong[0][0] and found[1] in words:
                self.same(found, wrong[0])
            else:
                # The word is longer than those gone through, or has a letter that is not among theirs.
                self.assertTrue(found[1] not in words and (not wrong or found[0] <= wrong[0][0]))
            seen.append(found is None)
        self.assertGreater(min(seen.count(True), seen.count(False)), 50)


def size_of(expressions):
    return sum(size(expression) for expression in expressions)


class Refused(Case):
    def test_bad_conditions_at_each_place(self):
        for kind, misfit in (
            (INTEGERS, ("is", "a")), (AB, ("is", "c")), (AB, ("and", ("false",), ("in", ("names", ("b", "a"))))),
            (TAGGED, ("second", EVEN)), (NUMBERED, ("or", TRUE, ("first", ("is", "green")))),
        ):
            wrongs = [("letter", misfit), ("not", ("then", VOID, ("letter", misfit))), ("star", ("or", EMPTY, ("letter", misfit)))]
            good = ("letter", TRUE)
            for wrong in wrongs:
                for equations in (
                    (((wrong,), good),), (((good,), wrong),), (((wrong, VOID), good), ((VOID, VOID), VOID)),
                    (((VOID, wrong), VOID), ((VOID, VOID), VOID)), (((VOID, VOID), wrong), ((VOID, VOID), VOID)),
                    (((VOID, VOID), VOID), ((wrong, VOID), VOID)), (((VOID, VOID), VOID), ((VOID, wrong), VOID)),
                    (((VOID, VOID), VOID), ((VOID, VOID), wrong)),
                ):
                    for call in CALLS:
                        with self.refuses(BadCondition):
                            call(kind, equations)
                    with self.refuses(BadCondition):
                        first_failure(kind, equations, (VOID,) * len(equations))
                right = (((VOID, VOID), VOID), ((VOID, VOID), VOID))
                for told in ((wrong, VOID), (VOID, wrong), (ALL, wrong)):
                    with self.refuses(BadCondition):
                        first_failure(kind, right, told)
                self.assertIsNone(first_failure(kind, right, (VOID, VOID)))


class PassedOn(Case):
    def test_returned_expressions(self):
        for chance, kind, equations in drawn(range(80)):
            least = least_solution(kind, equations)
            self.assertLessEqual(max(size(one) for one in least), 200)
            self.assertIsNone(same_meaning(kind, least[0], to_expression_of(kind, least[0])))
            for one in least:
                letter = chance.letter(kind, 3)
                told = derivative(kind, one, letter)
                self.assertIs(means(kind, told, ()), means(kind, one, (letter,)))
            # The solution stands in other equations.
            if max(size(one) for one in least) <= 200:
                again = tuple(((VOID,) * len(least), one) for one in least)
                for one, other in zip(least_solution(kind, again), least):
                    self.assertIsNone(same_meaning(kind, one, other))

    def test_conditions_stay_within_their_bounds(self):
        for chance, kind, equations in drawn(range(80)):
            known = {condition for one in all_in(equations) for condition in conditions(one)}
            for expression in (*least_solution(kind, equations), *greatest_solution(kind, equations)):
                self.assertLessEqual(set(conditions(expression)), known)

    def test_the_same_question_has_the_same_answer(self):
        told = [(kind, equations) for _, kind, equations in drawn(range(60))]
        before = [[call(*two) for call in CALLS] for two in told]
        after = [[call(*two) for call in CALLS] for two in told[::-1]][::-1]
        self.same(after, before)


def to_expression_of(kind, expression):
    """The expression made into a machine and back, where the machine is small enough."""
    machine = to_machine(kind, expression)
    return to_expression(machine) if machine[1] <= 4 else expression


if __name__ == "__main__":
    unittest.main()

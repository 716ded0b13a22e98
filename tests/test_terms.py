"""Terms: [22], [30], [40], [170], [171], [172] and the interface of terms.py."""

import unittest

from guardwords.conditions import check_condition, meets
from guardwords.errors import BadCondition, BadTerm
from guardwords.sets import holds, letters_of
from guardwords.solver import classes, differing, first_letter, implies
from guardwords.terms import before, check_term, given_letters, gives, is_plain, put_behind, there
from tests import naive_translations as naive
from tests.naive_translations import Writer, moved_by, paths_of
from tests.support import COLOURS, INTEGERS, NUMBERED, TAGGED, Case, in_one_form, inside, letters_near, met, set_of, span

TURNED = ("names", ("blue", "red"))
MAYBE = ("maybe", INTEGERS)
EITHER = ("either", (INTEGERS, COLOURS, MAYBE))
DOUBLED = ("pair", INTEGERS, INTEGERS)
DEEP = ("pair", ("pair", COLOURS, INTEGERS), MAYBE)
EVEN = ("mod", 2, 0)
BIG = 10 ** 29 + 4


class CheckTerm(Case):
    def right(self, kind, other, *terms):
        for term in terms:
            self.assertIsNone(check_term(kind, other, term), term)

    def wrong(self, kind, other, *terms):
        for term in terms:
            with self.subTest(kind=kind, other=other, term=term), self.refuses(BadTerm):
                check_term(kind, other, term)

    def test_always(self):
        self.right(INTEGERS, COLOURS, ("always", "red"), ("always", "blue"))
        self.right(COLOURS, INTEGERS, ("always", 0), ("always", -20), ("always", BIG))
        self.right(INTEGERS, MAYBE, ("always", ("none",)), ("always", ("some", 3)))
        self.right(INTEGERS, EITHER, ("always", ("case", 0, 3)), ("always", ("case", 1, "red")),
                   ("always", ("case", 2, ("none",))), ("always", ("case", 2, ("some", 1))))
        self.right(INTEGERS, TAGGED, ("always", ("pair", "red", ("none",))))
        self.wrong(INTEGERS, COLOURS, ("always", "green"), ("always", 0), ("always", True), ("always", ("some", "red")))
        self.wrong(COLOURS, INTEGERS, ("always", "red"), ("always", True), ("always", False), ("always", ("none",)))
        self.wrong(INTEGERS, MAYBE, ("always", 3), ("always", ("some", True)), ("always", ("some", "red")),
                   ("always", ("case", 0, 3)), ("always", "none"))
        self.wrong(INTEGERS, EITHER, ("always", ("case", 3, 3)), ("always", ("case", 0, "red")), ("always", ("case", 1, 0)),
                   ("always", ("case", True, "red")), ("always", ("case", False, 0)), ("always", 0),
                   ("always", ("case", "red", 0)), ("always", ("case", -1, ("none",))), ("always", ("case", 2, 0)))
        self.wrong(INTEGERS, NUMBERED, ("always", ("pair", "red", True)), ("always", ("pair", 1, 1)),
                   ("always", ("pair", "red", "red")), ("always", ("pair", "green", 1)), ("always", ("some", 1)))

    def test_read(self):
        self.right(INTEGERS, INTEGERS, ("read", ()))
        self.right(NUMBERED, COLOURS, ("read", ("first",)))
        self.right(NUMBERED, INTEGERS, ("read", ("second",)))
        self.right(NUMBERED, NUMBERED, ("read", ()))
        self.right(TAGGED, MAYBE, ("read", ("second",)))
        self.right(TAGGED, INTEGERS, ("read", ("second", "some")))
        self.right(EITHER, INTEGERS, ("read", (0,)), ("read", (2, "some")))
        self.right(EITHER, COLOURS, ("read", (1,)))
        self.right(DEEP, COLOURS, ("read", ("first", "first")))
        # A path that does not fit.
        self.wrong(INTEGERS, INTEGERS, ("read", ("first",)), ("read", (0,)), ("read", ("some",)))
        self.wrong(NUMBERED, INTEGERS, ("read", ("some",)), ("read", (1,)), ("read", ("second", "some")))
        self.wrong(("either", (INTEGERS,)), INTEGERS, ("read", (1,)), ("read", (2,)), ("read", ("first",)))
        self.wrong(TAGGED, INTEGERS, ("read", ("second", "first")), ("read", ("first", "some")))
        # One that fits and leads to another kind.
        self.wrong(INTEGERS, COLOURS, ("read", ()))
        self.wrong(NUMBERED, COLOURS, ("read", ("second",)), ("read", ()))
        self.wrong(NUMBERED, INTEGERS, ("read", ("first",)), ("read", ()))
        self.wrong(TAGGED, INTEGERS, ("read", ("second",)))
        self.wrong(INTEGERS, MAYBE, ("read", ()))
        self.wrong(MAYBE, INTEGERS, ("read", ()))

    def test_names_in_another_order(self):
        self.wrong(COLOURS, TURNED, ("read", ()))
        self.wrong(NUMBERED, TURNED, ("read", ("first",)))
        self.wrong(("pair", COLOURS, INTEGERS), ("pair", TURNED, INTEGERS), ("read", ()))
        self.right(("pair", COLOURS, TURNED), TURNED, ("read", ("second",)))
        self.wrong(("pair", COLOURS, TURNED), TURNED, ("read", ("first",)))
        self.right(COLOURS, TURNED, ("always", "red"))

    def test_plus_and_minus(self):
        for head in ("plus", "minus"):
            self.right(INTEGERS, INTEGERS, (head, (), 0), (head, (), 20), (head, (), -20))
            self.right(TAGGED, INTEGERS, (head, ("second", "some"), 3))
            self.right(EITHER, INTEGERS, (head, (2, "some"), 3), (head, (0,), 3))
            self.wrong(INTEGERS, COLOURS, (head, (), 1))
            self.wrong(INTEGERS, MAYBE, (head, (), 1))
            self.wrong(COLOURS, COLOURS, (head, (), 1))
            self.wrong(COLOURS, INTEGERS, (head, (), 1))
            self.wrong(NUMBERED, INTEGERS, (head, ("first",), 1), (head, (), 1), (head, ("third",), 1))
            self.wrong(TAGGED, INTEGERS, (head, ("second",), 1))
            self.wrong(MAYBE, MAYBE, (head, (), 1))

    def test_terms_put_together(self):
        shift = ("pair", ("read", ("first",)), ("plus", ("second",), 3))
        self.right(NUMBERED, NUMBERED, shift)
        self.right(INTEGERS, DOUBLED, ("pair", ("read", ()), ("minus", (), 3)))
        self.right(INTEGERS, EITHER, ("case", 0, ("plus", (), 1)), ("case", 1, ("always", "red")),
                   ("case", 2, ("some", ("read", ()))), ("case", 2, ("always", ("none",))))
        self.right(INTEGERS, MAYBE, ("some", ("read", ())))
        self.right(COLOURS, TAGGED, ("pair", ("read", ()), ("some", ("always", 4))))
        self.wrong(INTEGERS, NUMBERED, ("pair", ("read", ()), ("read", ())), ("read", ()), ("some", ("read", ())))
        self.wrong(NUMBERED, NUMBERED, ("pair", ("read", ("second",)), ("read", ("first",))))
        self.wrong(INTEGERS, INTEGERS, ("pair", ("read", ()), ("read", ())), ("case", 0, ("read", ())), ("some", ("read", ())))
        self.wrong(INTEGERS, EITHER, ("some", ("read", ())), ("case", 1, ("read", ())), ("case", 2, ("read", ())))
        self.wrong(INTEGERS, ("either", (INTEGERS,)), ("case", 1, ("read", ())), ("case", 2, ("read", ())))
        self.wrong(INTEGERS, MAYBE, ("case", 0, ("read", ())), ("some", ("some", ("read", ()))), ("some", ("always", "red")))
        self.wrong(INTEGERS, ("maybe", COLOURS), ("some", ("read", ())))

    def test_by_chance(self):
        seen = [0, 0]
        for seed in range(300):
            chance = Writer(seed, 20)
            kind, other, third = chance.kind(), chance.kind(), chance.kind()
            term = chance.term(kind, other)
            self.assertIsNone(check_term(kind, other, term))
            for wrong in ((third, other), (kind, third), (other, kind)):
                fits = self.fits(wrong[0], wrong[1], term)
                seen[fits] += 1
                if fits:
                    self.assertIsNone(check_term(*wrong, term))
                else:
                    with self.refuses(BadTerm):
                        check_term(*wrong, term)
        self.assertGreater(min(seen), 50)

    def fits(self, kind, other, term):
        """Whether the term fits, by the table of [170]."""
        match term:
            case ("always", letter):
                return letter in letters_near(other, 20)
            case ("read", path):
                return naive.at_path(kind, path) == other
            case ("plus" | "minus", path, _):
                return naive.at_path(kind, path) == INTEGERS and other == INTEGERS
            case ("pair", t, u):
                return other[0] == "pair" and self.fits(kind, other[1], t) and self.fits(kind, other[2], u)
            case ("case", i, t):
                return other[0] == "either" and i < len(other[1]) and self.fits(kind, other[1][i], t)
            case ("some", t):
                return other[0] == "maybe" and self.fits(kind, other[1], t)


class Gives(Case):
    def test_each_form(self):
        for term, letter, wanted in (
            (("always", "red"), 5, "red"), (("always", ("some", 3)), "red", ("some", 3)), (("read", ()), 7, 7),
            (("read", ("second",)), ("pair", "red", 4), 4), (("read", ("second", "some")), ("pair", "red", ("some", 2)), 2),
            (("plus", (), 3), 4, 7), (("plus", (), -3), 1, -2), (("minus", (), 3), 4, -1), (("minus", (), 0), 9, -9),
            (("plus", (), 0), -9, -9), (("pair", ("read", ()), ("minus", (), 1)), 5, ("pair", 5, -4)),
            (("case", 2, ("read", ())), 5, ("case", 2, 5)), (("some", ("read", ("first",))), ("pair", "red", 0), ("some", "red")),
            (("some", ("some", ("read", ()))), 0, ("some", ("some", 0))), (("read", (1,)), ("case", 1, "red"), "red"),
            (("plus", (0,), 1), ("case", 0, 0), 1), (("read", ()), ("none",), ("none",)),
        ):
            self.same(gives(term, letter), wanted)

    def test_long_integers(self):
        self.same(gives(("plus", (), 20), BIG), BIG + 20)
        self.same(gives(("minus", (), -20), BIG), -20 - BIG)
        self.same(gives(("minus", ("second", "some"), 7), ("pair", "red", ("some", -BIG))), BIG + 7)
        self.same(gives(("pair", ("plus", (), 1), ("read", ())), -BIG), ("pair", 1 - BIG, -BIG))

    def test_a_leaf_twice(self):
        self.same(gives(("pair", ("read", ()), ("read", ())), "red"), ("pair", "red", "red"))
        self.same(gives(("pair", ("plus", (1,), 1), ("minus", (1,), 1)), ("case", 1, 4)), ("pair", 5, -3))

    def test_paths_that_are_not_there(self):
        none, some = ("pair", "red", ("none",)), ("pair", "red", ("some", 0))
        for leaf in (("read", ("second", "some")), ("plus", ("second", "some"), 1), ("minus", ("second", "some"), 1)):
            for term in (leaf, ("some", leaf), ("case", 1, leaf), ("pair", leaf, ("always", 1)), ("pair", ("always", 1), leaf),
                         ("pair", ("read", ("first",)), leaf), ("pair", leaf, leaf), ("some", ("pair", ("always", 1), leaf))):
                self.assertIsNone(gives(term, none))
                self.assertIsNotNone(gives(term, some))
        self.assertIsNone(gives(("read", (0,)), ("case", 1, 5)))
        self.assertIsNone(gives(("plus", (1,), 2), ("case", 0, 5)))
        self.assertIsNone(gives(("read", (2, "some")), ("case", 2, ("none",))))
        self.same(gives(("read", (2,)), ("case", 2, ("none",))), ("none",))
        self.assertIsNone(gives(("pair", ("read", (0,)), ("read", (1,))), ("case", 0, 5)))

    def test_by_chance(self):
        for seed in range(200):
            chance = Writer(seed, 20)
            kind = chance.kind()
            term = chance.term(kind, chance.kind())
            for most in (3, BIG):
                letter = chance.letter(kind, most)
                self.same(gives(term, letter), naive.gives(term, letter))


class Plain(Case):
    def test_paths_are_counted(self):
        read, more = ("read", ()), ("plus", (), 1)
        for term in (read, more, ("minus", (), 1), ("always", 3), ("pair", ("always", 1), read), ("pair", more, ("always", 1)),
                     ("some", read), ("case", 0, ("some", more)), ("pair", ("always", 1), ("always", 1)),
                     ("pair", ("pair", ("always", 1), read), ("some", ("always", 2)))):
            self.assertIs(is_plain(term), True)
        for term in (("pair", read, read), ("pair", read, more), ("some", ("pair", read, read)),
                     ("pair", ("read", ("first",)), ("read", ("second",))), ("pair", ("some", read), ("case", 0, more)),
                     ("pair", ("pair", read, ("always", 1)), read)):
            self.assertIs(is_plain(term), False)

    def test_by_chance(self):
        for seed in range(100):
            chance = Writer(seed)
            term = chance.term(chance.kind(), chance.kind())
            self.assertIs(is_plain(term), len(paths_of(term)) <= 1)


class There(Case):
    def test_edges(self):
        for kind, term, count in (
            (INTEGERS, ("read", ()), 7), (INTEGERS, ("always", 3), 7), (MAYBE, ("read", ()), 8), (MAYBE, ("plus", ("some",), 1), 7),
            (EITHER, ("read", (1,)), 2), (EITHER, ("minus", (2, "some"), 0), 7), (EITHER, ("read", (2,)), 8),
            (EITHER, ("pair", ("read", (1,)), ("read", (0,))), 0), (EITHER, ("some", ("always", 1)), 17),
            (("pair", MAYBE, MAYBE), ("pair", ("read", ("first", "some")), ("read", ("second", "some"))), 49),
            (("pair", MAYBE, MAYBE), ("pair", ("read", ("first", "some")), ("read", ("second",))), 56),
        ):
            condition = there(kind, term)
            self.assertIsNone(check_condition(kind, condition))
            found = [letter for letter in letters_near(kind, 3) if meets(kind, condition, letter)]
            self.assertEqual(len(found), count, (kind, term))
            self.assertTrue(all(naive.gives(term, letter) is not None for letter in found))

    def test_by_chance(self):
        for seed in range(200):
            chance = Writer(seed)
            kind = chance.kind()
            term = chance.term(kind, chance.kind())
            condition = there(kind, term)
            for letter in [chance.letter(kind) for _ in range(20)] + [chance.letter(kind, BIG)]:
                self.assertIs(meets(kind, condition, letter), naive.gives(term, letter) is not None)


class Before(Case):
    def agrees(self, kind, other, term, condition, reach=6):
        told = before(kind, other, term, condition)
        self.assertIsNone(check_condition(kind, told))
        for letter in letters_near(kind, reach):
            given = naive.gives(term, letter)
            self.assertIs(meets(kind, told, letter), given is not None and met(condition, given), (told, letter))
        return told

    def test_integers(self):
        for n in (-20, -3, 0, 1, 20):
            for head in ("plus", "minus"):
                for condition in ((("<", 2), (">", -2), ("=", 1), ("mod", 3, 1), ("mod", 4, 3), EVEN, ("true",), ("false",),
                                  ("not", ("<", 0)), ("and", (">", -20), ("mod", 3, 2)), ("or", ("=", 20), ("<", -18)))):
                    self.agrees(INTEGERS, INTEGERS, (head, (), n), condition, 45)
                    self.agrees(MAYBE, INTEGERS, (head, ("some",), n), condition, 45)

    def test_letter_sets(self):
        numbers = set_of(INTEGERS, ("or", ("and", ("<", -2), ("mod", 3, 1)), ("or", ("=", 2), ("and", (">", 4), EVEN))))
        for term in (("plus", (), 20), ("plus", (), -7), ("minus", (), 3), ("minus", (), -20), ("read", ()), ("always", 2)):
            self.agrees(INTEGERS, INTEGERS, term, ("in", numbers), 40)
            self.agrees(INTEGERS, INTEGERS, term, ("not", ("in", numbers)), 40)
        names = ("names", ("blue",))
        self.agrees(NUMBERED, COLOURS, ("read", ("first",)), ("in", names))
        self.agrees(NUMBERED, COLOURS, ("always", "blue"), ("in", names))
        pairs = set_of(NUMBERED, ("or", ("and", ("first", ("is", "red")), ("second", EVEN)), ("second", ("=", 3))))
        for term in (("pair", ("read", ("first",)), ("plus", ("second",), 3)), ("read", ()), ("always", ("pair", "red", 1)),
                     ("pair", ("always", "blue"), ("minus", ("second",), 1)), ("pair", ("read", ("first",)), ("always", 2))):
            self.agrees(NUMBERED, NUMBERED, term, ("in", pairs))
        cases = set_of(EITHER, ("or", ("case", 0, ("<", 2)), ("case", 2, ("none",))))
        for term in (("case", 0, ("read", ("second",))), ("case", 1, ("read", ("first",))), ("case", 2, ("always", ("none",))),
                     ("case", 2, ("some", ("read", ("second",)))), ("always", ("case", 0, 1))):
            self.agrees(NUMBERED, EITHER, term, ("in", cases))
        maybes = set_of(MAYBE, ("not", ("some", EVEN)))
        for term in (("some", ("plus", (), 1)), ("always", ("none",)), ("always", ("some", 2)), ("some", ("always", 2))):
            self.agrees(INTEGERS, MAYBE, term, ("in", maybes))
        self.agrees(TAGGED, MAYBE, ("read", ("second",)), ("in", maybes))

    def test_terms_put_together(self):
        for term, condition in (
            (("pair", ("read", ("first",)), ("plus", ("second",), 3)), ("and", ("first", ("is", "red")), ("second", (">", 2)))),
            (("pair", ("always", "red"), ("minus", ("second",), 3)), ("or", ("first", ("is", "blue")), ("second", (">", 2)))),
            (("pair", ("always", "red"), ("minus", ("second",), 3)), ("not", ("first", ("is", "red")))),
        ):
            self.agrees(NUMBERED, NUMBERED, term, condition)
        for term in (("case", 0, ("read", ("second", "some"))), ("case", 1, ("read", ("first",))), ("case", 2, ("read", ("second",))),
                     ("case", 2, ("some", ("minus", ("second", "some"), 2))), ("always", ("case", 2, ("none",)))):
            for condition in (("case", 0, ("<", 2)), ("case", 1, ("is", "red")), ("case", 2, ("none",)), ("not", ("case", 0, EVEN)),
                              ("case", 2, ("some", ("=", 1))), ("case", 2, ("not", ("some", ("=", 1)))), ("true",)):
                self.agrees(TAGGED, EITHER, term, condition)

    def test_where_the_term_is_not_there_nothing_is_met(self):
        told = self.agrees(MAYBE, INTEGERS, ("read", ("some",)), ("not", ("false",)))
        self.assertIs(meets(MAYBE, told, ("none",)), False)
        told = self.agrees(EITHER, MAYBE, ("some", ("plus", (0,), 1)), ("not", ("none",)))
        self.assertIs(meets(EITHER, told, ("case", 1, "red")), False)

    def test_errors(self):
        for condition in (("is", "red"), ("first", EVEN), ("and", ("false",), ("none",)), ("in", ("names", ("red",)))):
            with self.refuses(BadCondition):
                before(INTEGERS, INTEGERS, ("read", ()), condition)
            with self.refuses(BadCondition):
                before(INTEGERS, INTEGERS, ("always", "red"), condition)
        with self.refuses(BadTerm):
            before(INTEGERS, COLOURS, ("read", ()), ("is", "red"))
        # The condition is one on letters of the other kind.
        self.assertIsNone(check_condition(COLOURS, before(COLOURS, INTEGERS, ("always", 3), (">", 2))))
        with self.refuses(BadCondition):
            before(COLOURS, INTEGERS, ("always", 3), ("is", "red"))

    def test_by_chance(self):
        for seed in range(250):
            chance = Writer(seed, 20, (1, 2, 3, 4))
            kind, other = chance.kind(), chance.kind()
            term, condition = chance.term(kind, other), chance.condition(other)
            told = before(kind, other, term, condition)
            self.assertIsNone(check_condition(kind, told))
            first = first_letter(kind, told)
            for letter in [chance.letter(kind, 45) for _ in range(20)] + [chance.letter(kind, BIG), first]:
                if letter is not None:
                    given = gives(term, letter)
                    self.assertIs(meets(kind, told, letter), given is not None and met(condition, given))
            self.assertIs(implies(kind, told, there(kind, term)), True)
            none = before(kind, other, term, ("not", condition))
            self.assertIsNone(differing(kind, ("or", told, none), there(kind, term)))


class GivenLetters(Case):
    def test_edges(self):
        for kind, other, term, condition, wanted in (
            (INTEGERS, INTEGERS, ("plus", (), 3), (">", 4), (">", 7)), (INTEGERS, INTEGERS, ("minus", (), 3), (">", 4), ("<", -1)),
            (INTEGERS, INTEGERS, ("minus", (), -1), ("mod", 3, 1), ("mod", 3, 1)), (INTEGERS, INTEGERS, ("read", ()), EVEN, EVEN),
            (INTEGERS, COLOURS, ("always", "red"), EVEN, ("is", "red")), (INTEGERS, COLOURS, ("always", "red"), ("false",), ("false",)),
            (MAYBE, INTEGERS, ("always", 5), ("none",), ("=", 5)), (MAYBE, INTEGERS, ("plus", ("some",), 5), ("none",), ("false",)),
            (MAYBE, INTEGERS, ("plus", ("some",), 5), ("true",), ("true",)), (MAYBE, MAYBE, ("read", ()), ("none",), ("none",)),
            (INTEGERS, NUMBERED, ("pair", ("always", "red"), ("plus", (), 1)), EVEN,
             ("and", ("first", ("is", "red")), ("second", ("mod", 2, 1)))),
            (INTEGERS, MAYBE, ("some", ("minus", (), 0)), ("<", 0), ("some", (">", 0))),
            (INTEGERS, EITHER, ("case", 2, ("some", ("read", ()))), ("<", 0), ("case", 2, ("some", ("<", 0)))),
            (INTEGERS, DOUBLED, ("pair", ("always", 1), ("always", 2)), ("=", 9), ("and", ("first", ("=", 1)), ("second", ("=", 2)))),
            (INTEGERS, DOUBLED, ("pair", ("always", 1), ("always", 2)), ("and", EVEN, ("mod", 4, 1)), ("false",)),
            (DOUBLED, INTEGERS, ("read", ("second",)), ("and", ("first", EVEN), ("second", ("<", 3))), ("<", 3)),
        ):
            self.same(given_letters(kind, other, term, condition), set_of(other, wanted))

    def test_parts_that_are_there_for_some_first_parts_only(self):
        kind = ("pair", MAYBE, INTEGERS)
        condition = ("or", ("and", ("first", ("some", ("<", 0))), ("second", EVEN)), ("and", ("first", ("none",)), ("second", ("=", 3))))
        self.same(given_letters(kind, INTEGERS, ("read", ("first", "some")), condition), set_of(INTEGERS, ("<", 0)))
        self.same(given_letters(kind, INTEGERS, ("plus", ("second",), 1), condition),
                  set_of(INTEGERS, ("or", ("mod", 2, 1), ("=", 4))))

    def test_errors(self):
        with self.refuses(BadCondition):
            given_letters(INTEGERS, INTEGERS, ("read", ()), ("is", "red"))
        with self.refuses(BadCondition):
            given_letters(INTEGERS, INTEGERS, ("always", "red"), ("and", ("false",), ("none",)))
        with self.refuses(BadTerm):
            given_letters(INTEGERS, COLOURS, ("read", ()), EVEN)
        # The condition is one on letters of the first kind.
        self.same(given_letters(COLOURS, INTEGERS, ("always", 3), ("is", "red")), set_of(INTEGERS, ("=", 3)))

    def test_by_chance(self):
        done = 0
        for seed in range(400):
            chance = Writer(seed, 2, (1, 2, 3))
            kind, other = chance.kind(2, 4), chance.kind(2, 4)
            term, condition = chance.term(kind, other), chance.condition(kind)
            letters = letters_near(kind, 4 + moved_by(term) + sum(span(condition)))
            if len(paths_of(term)) > 1 or len(letters) > 800 or len(letters_near(other, 4)) > 400:
                continue
            done += 1
            found = given_letters(kind, other, term, condition)
            wanted = {naive.gives(term, letter) for letter in letters if met(condition, letter)}
            for letter in letters_near(other, 4):
                self.assertIs(inside(found, letter), letter in wanted)
            self.same(found, in_one_form(other, lambda letter: inside(found, letter), *span(found)))
        self.assertGreater(done, 100)


class PutBehind(Case):
    def agrees(self, kind, other, third, first, second):
        self.assertIsNone(check_term(kind, other, first))
        self.assertIsNone(check_term(other, third, second))
        told = put_behind(first, second)
        if told is not None:
            self.assertIsNone(check_term(kind, third, told))
        for letter in letters_near(kind, 3):
            given = naive.gives(first, letter)
            wanted = None if given is None else naive.gives(second, given)
            if wanted is not None:
                self.same(gives(told, letter), wanted)
        return told

    def test_paths_that_go_on(self):
        shift = ("pair", ("read", ("first",)), ("plus", ("second",), 3))
        for kind, other, third, first, second in (
            (NUMBERED, NUMBERED, INTEGERS, shift, ("read", ("second",))), (NUMBERED, NUMBERED, COLOURS, shift, ("read", ("first",))),
            (NUMBERED, NUMBERED, NUMBERED, shift, ("read", ())), (NUMBERED, NUMBERED, NUMBERED, shift, shift),
            (INTEGERS, EITHER, INTEGERS, ("case", 0, ("plus", (), 1)), ("minus", (0,), 2)),
            (INTEGERS, EITHER, INTEGERS, ("case", 2, ("some", ("minus", (), 1))), ("minus", (2, "some"), 2)),
            (INTEGERS, MAYBE, INTEGERS, ("some", ("read", ())), ("plus", ("some",), 2)),
            (INTEGERS, TAGGED, INTEGERS, ("always", ("pair", "red", ("some", 4))), ("plus", ("second", "some"), 2)),
            (INTEGERS, EITHER, MAYBE, ("always", ("case", 2, ("none",))), ("read", (2,))),
            (DEEP, ("pair", COLOURS, INTEGERS), INTEGERS, ("read", ("first",)), ("plus", ("second",), 2)),
            (TAGGED, MAYBE, INTEGERS, ("read", ("second",)), ("read", ("some",))),
            (TAGGED, MAYBE, EITHER, ("read", ("second",)), ("case", 2, ("read", ()))),
        ):
            self.assertIsNotNone(self.agrees(kind, other, third, first, second))

    def test_integers_behind_integers(self):
        for first in (("read", ()), ("plus", (), 4), ("plus", (), -20), ("minus", (), 4), ("minus", (), 20), ("always", 7)):
            for second in (("read", ()), ("plus", (), 3), ("plus", (), 20), ("minus", (), 3), ("minus", (), -20), ("always", 7)):
                told = self.agrees(INTEGERS, INTEGERS, INTEGERS, first, second)
                self.same(gives(told, BIG), naive.gives(second, naive.gives(first, BIG)))

    def test_paths_that_can_not_be_followed(self):
        for first, second in (
            (("case", 0, ("read", ())), ("read", (1,))), (("case", 0, ("read", ())), ("plus", (2, "some"), 1)),
            (("always", ("case", 1, "red")), ("read", (0,))), (("always", ("none",)), ("read", ("some",))),
            (("always", ("none",)), ("minus", ("some",), 1)), (("always", ("pair", "red", ("none",))), ("plus", ("second", "some"), 1)),
            (("case", 2, ("always", ("none",))), ("read", (2, "some"))),
            (("case", 0, ("read", ())), ("pair", ("always", 1), ("read", (1,)))),
            (("case", 0, ("read", ())), ("pair", ("read", (1,)), ("read", (0,)))),
            (("case", 0, ("read", ())), ("some", ("read", (1,)))), (("case", 0, ("read", ())), ("case", 1, ("minus", (1,), 0))),
            (("pair", ("read", ()), ("always", ("none",))), ("read", ("second", "some"))),
        ):
            self.assertIsNone(put_behind(first, second))

    def test_a_term_without_a_path_stays(self):
        for second in (("always", 3), ("pair", ("always", 3), ("always", "red")), ("some", ("always", 3)), ("case", 1, ("always", 0))):
            for first in (("case", 0, ("read", ())), ("always", ("none",)), ("plus", (), 3)):
                told = put_behind(first, second)
                self.same(gives(told, 5), naive.gives(second, 0))

    def test_a_third_one_behind_it(self):
        first = ("pair", ("minus", (), 3), ("plus", (), 20))
        second = ("pair", ("minus", ("second",), -4), ("plus", ("first",), 20))
        told = put_behind(put_behind(first, second), second)
        other = put_behind(first, put_behind(second, second))
        for letter in (0, 5, -7, BIG):
            wanted = naive.gives(second, naive.gives(second, naive.gives(first, letter)))
            self.same(gives(told, letter), wanted)
            self.same(gives(other, letter), wanted)

    def test_by_chance(self):
        seen = [0, 0]
        for seed in range(400):
            chance = Writer(seed)
            kind, other, third, last = chance.kind(), chance.kind(), chance.kind(), chance.kind()
            first, second, behind = chance.term(kind, other), chance.term(other, third), chance.term(third, last)
            told = self.agrees_by_chance(chance, kind, third, first, second)
            seen[told is None] += 1
            if told is not None:
                self.agrees_by_chance(chance, kind, last, told, behind)
        self.assertGreater(min(seen), 5)

    def agrees_by_chance(self, chance, kind, third, first, second):
        told = put_behind(first, second)
        if told is not None:
            self.assertIsNone(check_term(kind, third, told))
        for letter in [chance.letter(kind) for _ in range(12)] + [chance.letter(kind, BIG)]:
            given = naive.gives(first, letter)
            wanted = None if given is None else naive.gives(second, given)
            if wanted is not None:
                self.assertIsNotNone(told)
                self.same(gives(told, letter), wanted)
        return told


class PassedOn(Case):
    def test_returned_conditions_and_sets(self):
        for seed in range(120):
            chance = Writer(seed, 20, (1, 2, 3, 4))
            kind, other, third = chance.kind(), chance.kind(), chance.kind()
            first, second, condition = chance.term(kind, other), chance.term(other, third), chance.condition(third)
            middle = before(other, third, second, condition)
            whole = before(kind, other, first, middle)
            told = put_behind(first, second)
            straight = ("false",) if told is None else ("and", there(kind, first), before(kind, third, told, condition))
            if told is not None and set(paths_of(told)) >= set(paths_of(first)):
                self.assertIsNone(differing(kind, whole, straight))
            self.assertIs(implies(kind, whole, straight if told is not None else ("false",)), True)
            if len(paths_of(first)) <= 1:
                letters = given_letters(kind, other, first, ("in", letters_of(kind, whole)))
                self.assertIs(implies(other, ("in", letters), middle), True)
                self.assertIsNone(differing(kind, whole, before(kind, other, first, ("in", letters))))
                self.assertEqual(len(classes(kind, (whole,))) == 1, first_letter(kind, ("not", whole)) is None
                                 or first_letter(kind, whole) is None)

    def test_far_integers(self):
        told = ("read", ())
        for _ in range(50):
            told = put_behind(told, ("plus", (), 20))
        self.same(gives(told, 0), 1000)
        condition = before(INTEGERS, INTEGERS, told, ("in", set_of(INTEGERS, ("and", (">", 3), EVEN))))
        self.same(first_letter(INTEGERS, ("and", condition, ("<", -100))), -102)
        self.same(first_letter(INTEGERS, ("and", condition, ("<", -990))), -992)
        self.assertIsNone(first_letter(INTEGERS, ("and", condition, ("<", -996))))
        letters = given_letters(INTEGERS, INTEGERS, told, ("<", 0))
        self.assertIs(holds(INTEGERS, letters, 999), True)
        self.assertIs(holds(INTEGERS, letters, 1000), False)


if __name__ == "__main__":
    unittest.main()

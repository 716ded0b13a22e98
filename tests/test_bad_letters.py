"""BadLetter at each function that tells it: [7], [20] and the interfaces."""

import unittest

from guardwords.conditions import meets
from guardwords.continuing import rest, verdict
from guardwords.desks import Desk
from guardwords.errors import BadCondition, BadLetter
from guardwords.letters import compared, is_letter, words_compared
from guardwords.machines import states_behind, takes
from guardwords.runs import first_run, ways
from guardwords.sets import holds, letters_of
from guardwords.solver import twin
from guardwords.translations import results
from guardwords.writing import certain, doubt, written
from tests.support import COLOURS, INTEGERS, NUMBERED, TAGGED, Case, Chance

TRUE = ("true",)
BIG = 10 ** 29 + 7
EITHER = ("either", (INTEGERS, COLOURS, ("maybe", INTEGERS)))
DEEP = ("pair", ("pair", COLOURS, INTEGERS), ("maybe", INTEGERS))
KINDS = (INTEGERS, COLOURS, NUMBERED, TAGGED, EITHER, DEEP, ("maybe", ("pair", INTEGERS, COLOURS)))
GOOD = {
    INTEGERS: (0, -BIG), COLOURS: ("red", "blue"), NUMBERED: (("pair", "red", BIG), ("pair", "blue", -1)),
    TAGGED: (("pair", "red", ("none",)), ("pair", "blue", ("some", BIG))),
    EITHER: (("case", 0, -BIG), ("case", 1, "red"), ("case", 2, ("none",)), ("case", 2, ("some", 4))),
    DEEP: (("pair", ("pair", "red", BIG), ("none",)), ("pair", ("pair", "blue", 0), ("some", -BIG))),
    ("maybe", ("pair", INTEGERS, COLOURS)): (("none",), ("some", ("pair", 3, "red"))),
}
# Letters of some kind that stand at one place instead of another one.
OTHERS = (0, BIG, "red", "green", ("none",), ("some", 1), ("some", "red"), ("pair", 0, 0), ("case", 0, 1), ("case", 2, 1))

# The functions that take words, each with a machine over the kind, and those that take one letter.
WORD_CALLS = {
    "words_compared, first": lambda kind, word: words_compared(kind, word, ()),
    "words_compared, second": lambda kind, word: words_compared(kind, (), word),
    "states_behind": lambda kind, word: states_behind(everything(kind), word),
    "takes": lambda kind, word: takes(everything(kind), word),
    "takes, no starts": lambda kind, word: takes((kind, 1, (), (), ()), word),
    "ways": lambda kind, word: ways(everything(kind), word),
    "ways, no starts": lambda kind, word: ways((kind, 1, (), (), ()), word),
    "first_run": lambda kind, word: first_run(everything(kind), word),
    "first_run, no steps": lambda kind, word: first_run((kind, 1, (0,), (0,), ()), word),
    "rest": lambda kind, word: rest(everything(kind), word),
    "verdict": lambda kind, word: verdict(everything(kind), word),
    "verdict, no starts": lambda kind, word: verdict((kind, 1, (), (), ()), word),
    "results": lambda kind, word: results(copying(kind), word),
    "results, no starts": lambda kind, word: results((kind, kind, 1, (), (), ()), word),
    "certain": lambda kind, word: certain(copying(kind), word),
    "certain, no ends": lambda kind, word: certain((kind, kind, 1, (0,), (), ()), word),
    "doubt": lambda kind, word: doubt(copying(kind), word),
    "doubt, no steps": lambda kind, word: doubt((kind, kind, 1, (0,), ((0, ()),), ()), word),
    "written": lambda kind, word: tuple(written(copying(kind), word)),
    "written, its first element": lambda kind, word: next(written((kind, kind, 1, (), (), ()), word), None),
    "takes of a desk": lambda kind, word: desk_of(kind).takes("a", word),
    "results of a desk": lambda kind, word: desk_of(kind).results("t", word),
}
LETTER_CALLS = {
    "compared, first": lambda kind, letter: compared(kind, letter, GOOD[kind][0]),
    "compared, second": lambda kind, letter: compared(kind, GOOD[kind][0], letter),
    "meets": lambda kind, letter: meets(kind, TRUE, letter),
    "meets, false": lambda kind, letter: meets(kind, ("and", ("false",), TRUE), letter),
    "holds": lambda kind, letter: holds(kind, letters_of(kind, TRUE), letter),
    "holds, empty": lambda kind, letter: holds(kind, letters_of(kind, ("false",)), letter),
    "twin": lambda kind, letter: twin(kind, TRUE, letter),
}


def everything(kind):
    return (kind, 2, (0,), (0, 1), ((0, TRUE, 0), (0, TRUE, 1)))


def copying(kind):
    return (kind, kind, 1, (0,), ((0, ()),), ((0, TRUE, (("read", ()),), 0),))


def desk_of(kind):
    return Desk.made((("m", ("machine", everything(kind))), ("t", ("translation", copying(kind))), ("a", ("both", "m", "m"))))


def exchanged(letter):
    """The letter with one place exchanged for something else, each place by each other thing."""
    yield from OTHERS
    if isinstance(letter, tuple) and letter[0] == "pair":
        yield from (("pair", part, letter[2]) for part in exchanged(letter[1]))
        yield from (("pair", letter[1], part) for part in exchanged(letter[2]))
    elif isinstance(letter, tuple) and letter[0] == "case":
        yield from (("case", i, letter[2]) for i in (0, 1, 2) if i != letter[1])
        yield from (("case", letter[1], part) for part in exchanged(letter[2]))
    elif isinstance(letter, tuple) and letter[0] == "some":
        yield from (("some", part) for part in exchanged(letter[1]))


def bad_letters(kind):
    """Letters of other kinds, and letters of the kind with one place exchanged."""
    found = [other for one in KINDS for other in GOOD[one]] + [told for one in GOOD[kind] for told in exchanged(one)]
    return [letter for letter in dict.fromkeys(found) if not of_kind(kind, letter)]


def of_kind(kind, letter):
    """Whether it is a letter of the kind, by the table of [20]."""
    match kind, letter:
        case ("names", names), str():
            return letter in names
        case ("integers",), int():
            return True
        case ("pair", first, second), ("pair", a, b):
            return of_kind(first, a) and of_kind(second, b)
        case ("either", kinds), ("case", i, a):
            return i < len(kinds) and of_kind(kinds[i], a)
        case ("maybe", inner), ("some", a):
            return of_kind(inner, a)
    return kind[0] == "maybe" and letter == ("none",)


class BadLetters(Case):
    def test_there_are_many(self):
        for kind in KINDS:
            self.assertGreater(len(bad_letters(kind)), 10)
            for letter in bad_letters(kind):
                self.assertIs(is_letter(kind, letter), False)
            for letter in GOOD[kind]:
                self.assertIs(is_letter(kind, letter), True)

    def test_letters(self):
        for name, call in LETTER_CALLS.items():
            for kind in KINDS:
                before = [call(kind, letter) for letter in GOOD[kind]]
                for bad in bad_letters(kind):
                    with self.subTest(call=name, kind=kind, letter=bad), self.refuses(BadLetter):
                        call(kind, bad)
                self.same([call(kind, letter) for letter in GOOD[kind]], before)

    def test_words_of_one_letter(self):
        for name, call in WORD_CALLS.items():
            for kind in KINDS:
                before = [call(kind, (letter,)) for letter in GOOD[kind]]
                for bad in bad_letters(kind):
                    with self.subTest(call=name, kind=kind, letter=bad), self.refuses(BadLetter):
                        call(kind, (bad,))
                self.same([call(kind, (letter,)) for letter in GOOD[kind]], before)

    def test_each_place_of_a_word(self):
        for name, call in WORD_CALLS.items():
            for kind in KINDS:
                chance = Chance(len(name) + len(kind))
                for length in (1, 2, 8):
                    word = tuple(chance.choice(GOOD[kind]) for _ in range(length))
                    before = call(kind, word)
                    for at in range(length):
                        bad = chance.choice(bad_letters(kind))
                        with self.subTest(call=name, kind=kind, letter=bad, at=at), self.refuses(BadLetter):
                            call(kind, word[:at] + (bad,) + word[at + 1:])
                    self.same(call(kind, word), before)

    def test_what_is_read_only_behind_no_way(self):
        # The letter is refused even where no word that begins so leads anywhere.
        nowhere = (INTEGERS, 2, (0,), (1,), ((0, ("=", 5), 1),))
        for call in (states_behind, takes, ways, first_run, rest, verdict):
            with self.refuses(BadLetter):
                call(nowhere, (3, 4, "red"))
            with self.refuses(BadLetter):
                call(nowhere, (5, 4, 2, ("none",)))

    def test_bad_conditions_come_first(self):
        for kind in KINDS:
            misfit = ("first", ("first", ("first", ("=", 1)))) if kind != INTEGERS else ("none",)
            for condition in (misfit, ("and", ("false",), misfit), ("or", TRUE, ("not", misfit))):
                for letter in bad_letters(kind)[:5] + list(GOOD[kind]):
                    with self.refuses(BadCondition):
                        meets(kind, condition, letter)
                    with self.refuses(BadCondition):
                        twin(kind, condition, letter)

    def test_long_integers(self):
        odd = ("mod", 2, 1)
        machine = (INTEGERS, 2, (0,), (1,), ((0, odd, 0), (0, ("mod", 4, 0), 1), (1, (">", 20), 0)))
        word = (BIG, -BIG, BIG + 2, 4 * (BIG + 1))
        self.same(states_behind(machine, word), (1,))
        self.assertIs(takes(machine, word), True)
        self.same(ways(machine, word), 1)
        self.same(first_run(machine, word), (0, 0, 0, 0, 1))
        self.same(verdict(machine, word), ((), (0,)))
        self.same(compared(INTEGERS, BIG, -BIG), -1)
        self.same(words_compared(NUMBERED, (("pair", "red", BIG),), (("pair", "red", BIG + 1),)), -1)


if __name__ == "__main__":
    unittest.main()

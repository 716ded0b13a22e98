"""What the tests share: things drawn by chance, and answers worked out anew from the words of the document.

Nothing here is taken from the package but the errors. The answers come from going over letters one by one: all
integers up to some reach stand for all integers, as [52] tells.
"""

import contextlib
import random
import unittest
from math import lcm

from guardwords import errors

INTEGERS = ("integers",)
COLOURS = ("names", ("red", "blue"))
TAGGED = ("pair", COLOURS, ("maybe", INTEGERS))
NUMBERED = ("pair", COLOURS, INTEGERS)

ERRORS = [
    errors.BadLetter, errors.BadCondition, errors.BadTerm, errors.OtherKinds, errors.Unread, errors.NotPlain,
    errors.NotSingle, errors.TooMany, errors.UnknownName, errors.TooLarge, errors.WrongUse, errors.InUse,
    errors.Circle, errors.NothingToUndo,
]


class Case(unittest.TestCase):
    """A test case that knows the errors of the document."""

    @contextlib.contextmanager
    def refuses(self, error):
        """What stands below raises this error, which is a GuardError, a ValueError and none of the other errors."""
        with self.assertRaises(ValueError) as caught:
            yield
        self.assertIs(type(caught.exception), error)
        self.assertIsInstance(caught.exception, errors.GuardError)
        for other in ERRORS:
            self.assertEqual(isinstance(caught.exception, other), other is error)

    def same(self, found, wanted):
        """Equal values, with truths where truths are wanted and integers where integers are."""
        self.assertEqual(found, wanted)
        self.assertEqual(repr(found), repr(wanted))


# --- letters -----------------------------------------------------------------------------------------------------


def integer_place(number):
    return 2 * number - 1 if number > 0 else -2 * number


def key(kind, letter):
    """What orders the letters of the kind [21]."""
    head = kind[0]
    if head == "names":
        return (kind[1].index(letter),)
    if head == "integers":
        return (integer_place(letter),)
    if head == "pair":
        return (key(kind[1], letter[1]), key(kind[2], letter[2]))
    if head == "either":
        return (letter[1], key(kind[1][letter[1]], letter[2]))
    return (0,) if letter[0] == "none" else (1, key(kind[1], letter[1]))


def word_key(kind, word):
    return (len(word), [key(kind, letter) for letter in word])


def letters_near(kind, reach):
    """All letters of the kind with integers from -reach to reach, in their order."""
    head = kind[0]
    if head == "names":
        return list(kind[1])
    if head == "integers":
        return sorted(range(-reach, reach + 1), key=integer_place)
    if head == "pair":
        seconds = letters_near(kind[2], reach)
        return [("pair", a, b) for a in letters_near(kind[1], reach) for b in seconds]
    if head == "either":
        return [("case", i, a) for i, inner in enumerate(kind[1]) for a in letters_near(inner, reach)]
    return [("none",)] + [("some", a) for a in letters_near(kind[1], reach)]


# --- conditions --------------------------------------------------------------------------------------------------


def met(condition, letter):
    """Whether the letter meets the condition, by the table of [30]."""
    match condition:
        case ("true",):
            return True
        case ("false",):
            return False
        case ("not", c):
            return not met(c, letter)
        case ("and", c, d):
            return met(c, letter) and met(d, letter)
        case ("or", c, d):
            return met(c, letter) or met(d, letter)
        case ("is", name):
            return letter == name
        case ("<", n):
            return letter < n
        case ("=", n):
            return letter == n
        case (">", n):
            return letter > n
        case ("mod", m, r):
            return (letter - r) % m == 0
        case ("first", c):
            return met(c, letter[1])
        case ("second", c):
            return met(c, letter[2])
        case ("case", i, c):
            return letter[1] == i and met(c, letter[2])
        case ("none",):
            return letter == ("none",)
        case ("some", c):
            return letter != ("none",) and met(c, letter[1])
        case ("in", letters):
            return inside(letters, letter)
    raise AssertionError(condition)


def inside(letters, letter):
    """Whether the letter is in the letter set, by the table of [40]."""
    match letters:
        case ("names", members):
            return letter in members
        case ("integers", (low, below), members, (high, above)):
            if letter <= low:
                return below[(low - letter) % len(below)]
            if letter >= high:
                return above[(letter - high) % len(above)]
            return letter in members
        case ("pairs", rows):
            return any(inside(firsts, letter[1]) and inside(row, letter[2]) for firsts, row in rows)
        case ("either", sets):
            return inside(sets[letter[1]], letter[2])
        case ("maybe", truth, part):
            return truth if letter == ("none",) else inside(part, letter[1])
    raise AssertionError(letters)


def span(thing):
    """The numbers N and L of [52] for a condition or a letter set, or several of them in a tuple or list."""
    match thing:
        case ("<" | "=" | ">", n):
            return abs(n), 1
        case ("mod", m, _):
            return 0, m
        case ("integers", (low, below), members, (high, above)):
            return max(-low, high, *map(abs, members), 0), lcm(len(below), len(above))
        case tuple() | list():
            spans = [span(part) for part in thing]
            return max([0] + [n for n, _ in spans]), lcm(1, *[m for _, m in spans])
    return 0, 1


def in_one_form(kind, inside_it, bound, period):
    """The letter set of the letters for which inside_it is true, by [40], [41] and [42].

    Beyond the bound what it tells of integers comes back with the period, wherever they stand.
    """
    head = kind[0]
    reach = bound + 2 * period + 1
    if head == "names":
        return ("names", tuple(name for name in kind[1] if inside_it(name)))
    if head == "integers":
        truths = {x: bool(inside_it(x)) for x in range(-reach, reach + 1)}
        high, above = tail(lambda k: truths[k], 0, bound, period)
        low, below = tail(lambda k: truths[-k], 1, bound, period)
        return ("integers", (-low, below), tuple(x for x in range(-low + 1, high) if truths[x]), (high, above))
    if head == "pair":
        rows = {}
        for a in letters_near(kind[1], reach):
            row = in_one_form(kind[2], lambda b: inside_it(("pair", a, b)), bound, period)
            rows.setdefault(repr(row), (row, []))[1].append(a)
        empty = in_one_form(kind[2], lambda b: False, 0, 1)
        return ("pairs", tuple(
            (in_one_form(kind[1], firsts.__contains__, bound, period), row)
            for row, firsts in rows.values() if row != empty
        ))
    if head == "either":
        return ("either", tuple(
            in_one_form(inner, lambda a: inside_it(("case", i, a)), bound, period) for i, inner in enumerate(kind[1])
        ))
    part = in_one_form(kind[1], lambda a: inside_it(("some", a)), bound, period)
    return ("maybe", bool(inside_it(("none",))), part)


def tail(truth, least, bound, period):
    """The least start from `least` on from which truth comes back with the shortest length there is, and its truths."""
    last = bound + 2 * period + 1
    for size in range(1, period + 1):
        if all(truth(k) == truth(k + size) for k in range(bound + 1, last - size + 1)):
            start = bound + 1
            while start > least and truth(start - 1) == truth(start - 1 + size):
                start -= 1
            return start, tuple(truth(start + k) for k in range(size))
    raise AssertionError("no period")


def set_of(kind, condition):
    """The letter set of the letters that meet the condition."""
    return in_one_form(kind, lambda letter: met(condition, letter), *span(condition))


# --- by chance ---------------------------------------------------------------------------------------------------


NAMES = ("a", "b", "red", "blue", "x1", "Q")


class Chance(random.Random):
    """Kinds, conditions and machines drawn by chance; numbers up to most, remainders of the mods."""

    def __init__(self, seed, most=3, mods=(1, 2)):
        super().__init__(seed)
        self.most = most
        self.mods = mods

    def kind(self, depth=3, many=6):
        return self._kind(depth, many)[0]

    def _kind(self, depth, many):
        """A kind, and how many kinds are in it."""
        heads = ["names", "integers"]
        if depth > 1 and many > 1:
            heads += ["either", "maybe", "maybe"]
        if depth > 1 and many > 2:
            heads += ["pair", "pair", "pair"]
        head = self.choice(heads)
        if head == "names":
            return ("names", tuple(self.sample(NAMES, self.randint(1, 4)))), 1
        if head == "integers":
            return INTEGERS, 1
        if head == "maybe":
            inner, used = self._kind(depth - 1, many - 1)
            return ("maybe", inner), used + 1
        parts, used = [], 1
        size = 2 if head == "pair" else self.randint(1, min(3, many - 1))
        for left in range(size - 1, -1, -1):
            part, more = self._kind(depth - 1, many - used - left)
            parts.append(part)
            used += more
        return (("pair", *parts) if head == "pair" else ("either", tuple(parts))), used

    def condition(self, kind, many=8, sets=True):
        """A condition that fits the kind, with at most so many conditions in it."""
        if many >= 3 and self.random() < 0.55:
            left = self.randint(1, many - 2)
            return (self.choice(("and", "or")), self.condition(kind, left, sets),
                    self.condition(kind, many - 1 - left, sets))
        if many >= 2 and self.random() < 0.15:
            return ("not", self.condition(kind, many - 1, sets))
        if sets and self.random() < 0.15:
            return ("in", set_of(kind, self.condition(kind, 4, False)))
        if self.random() < 0.06:
            return self.choice((("true",), ("false",)))
        return self._own_form(kind, many, sets)

    def _own_form(self, kind, many, sets):
        head = kind[0]
        if head == "names":
            return ("is", self.choice(kind[1]))
        if head == "integers":
            if self.random() < 0.4:
                m = self.choice(self.mods)
                return ("mod", m, self.randrange(m))
            return (self.choice("<=>"), self.randint(-self.most, self.most))
        if many < 2:
            return ("true",) if head != "maybe" else ("none",)
        if head == "pair":
            at = self.choice((1, 2))
            return (("first", "second")[at - 1], self.condition(kind[at], many - 1, sets))
        if head == "either":
            i = self.randrange(len(kind[1]))
            return ("case", i, self.condition(kind[1][i], many - 1, sets))
        return ("none",) if self.random() < 0.3 else ("some", self.condition(kind[1], many - 1, sets))

    def letter(self, kind, most=None):
        """A letter of the kind."""
        most = self.most if most is None else most
        head = kind[0]
        if head == "names":
            return self.choice(kind[1])
        if head == "integers":
            return self.randint(-most, most)
        if head == "pair":
            return ("pair", self.letter(kind[1], most), self.letter(kind[2], most))
        if head == "either":
            i = self.randrange(len(kind[1]))
            return ("case", i, self.letter(kind[1][i], most))
        return ("none",) if self.random() < 0.2 else ("some", self.letter(kind[1], most))

    def word(self, kind, length, most=None):
        return tuple(self.letter(kind, most) for _ in range(length))

    def machine(self, kind, states=4, steps=6, many=5):
        """A machine over the kind, mostly with a start and an end, with at most `many` conditions in each of a step."""
        size = self.randint(1, states)
        told = tuple(
            (self.randrange(size), self.condition(kind, self.randint(1, many)), self.randrange(size))
            for _ in range(self.randint(min(2, steps), steps))
        )
        return (kind, size, self.states(size, (0, 1, 1, 1, 1, 1, 2)), self.states(size, (0, 1, 1, 1, 2, 2)), told)

    def states(self, size, counts):
        return tuple(sorted(self.sample(range(size), min(size, self.choice(counts)))))

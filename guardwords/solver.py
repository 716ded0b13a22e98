"""Exact answers about the conditions of a kind: which letters meet them, and how they lie to each other."""

from guardwords.conditions import check_condition, check_conditions
from guardwords.dividing import Division
from guardwords.integers import near
from guardwords.letters import check_letter
from guardwords.spans import span_of


def first_letter(kind, condition):
    """The first letter that meets the condition, or None if no letter meets it."""
    check_condition(kind, condition)
    return first_met(kind, condition)


def first_met(kind, condition):
    """The same for a condition that fits."""
    division = Division(kind, [condition])
    return _first_of(division, division.met(condition))


def implies(kind, first, second):
    """Whether each letter that meets the first condition meets the second one."""
    return first_letter(kind, ("and", first, ("not", second))) is None


def differing(kind, first, second):
    """The first letter that meets exactly one of the two conditions, or None if there is none."""
    check_conditions(kind, (first, second))
    division = Division(kind, [first, second])
    rows = list(zip(division.met(first), division.met(second)))
    return _first_of(division, [one != other for one, other in rows])


def _first_of(division, chosen):
    """The first letter of some classes, or None if there is no class among them."""
    firsts = [letter for letter, truth in zip(division.firsts, chosen) if truth]
    return firsts[0] if firsts else None


def classes(kind, conditions):
    """For each class of the conditions whether its letters meet each of them, and the letter set of the class."""
    check_conditions(kind, conditions)
    division = Division(kind, conditions)
    truths = _truths(division, conditions)
    many = len(truths)
    return tuple([(truths[at], division.letters_in([other == at for other in range(many)])) for at in range(many)])


def _truths(division, conditions):
    """For each class the tuple of whether its letters meet each of the conditions."""
    columns = [division.met(condition) for condition in conditions]
    return list(zip(*columns))


def together(kind, conditions):
    """The first letter that meets all of the conditions, and None; or None and their core."""
    check_conditions(kind, conditions)
    division = Division(kind, conditions)
    truths = _truths(division, conditions)
    letter = _first_of(division, [all(row) for row in truths])
    return (None, _core(truths, len(conditions))) if letter is None else (letter, None)


def _core(truths, many):
    """The first of the shortest tuples of numbers of conditions that no row has as true together."""
    chosen = [tuple([k for k in range(many) if (bits >> k) & 1 == 1]) for bits in range(1, 1 << many)]
    cores = [numbers for numbers in chosen if not _some_row_has(truths, numbers)]
    return min(cores, key=lambda core: (len(core), core))


def _some_row_has(truths, numbers):
    return any([all([row[number] for number in numbers]) for row in truths])


def twin(kind, condition, letter):
    """The twin of the letter: its integers are drawn as near to 0 as the numbers in the condition let them."""
    check_condition(kind, condition)
    check_letter(kind, letter)
    bound, period = span_of([condition])
    return _drawn(kind, letter, bound, period)


def _drawn(kind, letter, bound, period):
    head = kind[0]
    if head == "names" or letter == ("none",):
        return letter
    if head == "integers":
        return near(letter, bound, period)
    if head == "pair":
        return ("pair", _drawn(kind[1], letter[1], bound, period), _drawn(kind[2], letter[2], bound, period))
    if head == "either":
        return ("case", letter[1], _drawn(kind[1][letter[1]], letter[2], bound, period))
    return ("some", _drawn(kind[1], letter[1], bound, period))

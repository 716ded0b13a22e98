"""The first letters at which two terms part, and terms that are constant."""

from guardwords.composing import all_of, along, any_of, exactly
from guardwords.conditions import check_condition
from guardwords.dividing import Division
from guardwords.gaps import gaps_between
from guardwords.letters import rank
from guardwords.pushing import all_there, condition_before
from guardwords.sets import next_letter
from guardwords.solver import first_met
from guardwords.terms import check_term, gives


def part(kind, condition, other, first, second):
    """The first letter at which the two terms part under the condition, or None if there is none."""
    check_condition(kind, condition)
    check_term(kind, other, first)
    check_term(kind, other, second)
    return first_parting(kind, condition, first, second)


def first_parting(kind, condition, one, other):
    """The same for a condition and terms that fit."""
    met = all_of([condition, all_there([one, other])])
    first = first_met(kind, met)
    if first is None or gives(one, first) != gives(other, first):
        return first
    gaps = gaps_between(one, other)
    told = any_of([gap for gap in gaps if gap[0] != "apart"])
    letters = [first_met(kind, all_of([met, told]))]
    letters = letters + [_first_apart(kind, met, gap) for gap in gaps if gap[0] == "apart"]
    return _first_of(kind, letters)


def _first_of(kind, letters):
    """The first one of the letters, among which None stands for no letter."""
    there = [letter for letter in letters if letter is not None]
    return min(there, key=lambda letter: rank(kind, letter)) if there else None


def _first_apart(kind, met, gap):
    """The first letter that meets the condition and has the gap, one with two paths; None if there is none.

    The parts at the path are divided into classes: each part of a letter that meets the condition may be put in the
    place of each other part of its class. The first part of a class fails only where the first part leads to what the
    gap forbids, and there the second part does not. So the first two parts of each class are enough.
    """
    _, path, beside, sign, n = gap
    letters = []
    for value in _first_two_parts(kind, met, path):
        forbidden = value if sign == 1 and n == 0 else sign * value + n
        letters.append(first_met(kind, all_of([
            met, along(path, exactly(value)), ("not", along(beside, exactly(forbidden))),
        ])))
    return _first_of(kind, letters)


def _first_two_parts(kind, met, path):
    """The first two parts at the path of each class into which the condition divides these parts."""
    division = Division(kind, [met])
    for step in path:
        division = division.parts[step]
    classes = range(len(division.firsts))
    firsts = division.firsts
    sets = [division.letters_in([other == number for other in classes]) for number in classes]
    seconds = [next_letter(division.kind, letters, first) for letters, first in zip(sets, firsts)]
    return firsts + [second for second in seconds if second is not None]


def constant(kind, condition, other, term):
    """The letter that the term gives, if it is constant under the condition, otherwise None."""
    check_condition(kind, condition)
    check_term(kind, other, term)
    return constant_letter(kind, condition, term)


def constant_letter(kind, condition, term):
    """The same for a condition and a term that fit."""
    first = first_met(kind, condition)
    told = None if first is None else gives(term, first)
    if told is None:
        return None
    unlike = ("not", condition_before(term, exactly(told)))
    return told if first_met(kind, all_of([condition, unlike])) is None else None

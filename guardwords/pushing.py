"""Conditions on what a term gives, told as conditions on the letters for which it is there."""

from guardwords.composing import FALSE, TRUE, all_of, along, any_of
from guardwords.conditions import is_met
from guardwords.following import paths_in
from guardwords.moving import moved


def all_there(terms):
    """A condition that exactly the letters meet for which all of the terms are there."""
    return all_of([along(path, TRUE) for term in terms for path in paths_in(term) if path != ()])


def condition_before(term, condition):
    """The condition that is met if the term is there, and gives a letter that meets this condition."""
    return all_of([all_there([term]), _pushed(term, condition)])


def _pushed(term, condition):
    """A condition for the letters for which the term is there."""
    head = condition[0]
    if head == "not":
        return ("not", _pushed(term, condition[1]))
    if head == "and":
        return all_of([_pushed(term, condition[1]), _pushed(term, condition[2])])
    if head == "or":
        return any_of([_pushed(term, condition[1]), _pushed(term, condition[2])])
    if head in ("true", "false"):
        return condition
    form = term[0]
    if form == "always":
        return TRUE if is_met(condition, term[1]) else FALSE
    if form == "read":
        return along(term[1], condition)
    if form in ("plus", "minus"):
        return along(term[1], moved(condition, 1 if form == "plus" else -1, term[2]))
    return _pushed_set(term, condition[1]) if head == "in" else _pushed_part(term, condition)


def _pushed_part(term, condition):
    """The same for a term that puts a letter together, and a condition on a part of this letter."""
    form = term[0]
    head = condition[0]
    if form == "pair":
        return _pushed(term[1] if head == "first" else term[2], condition[1])
    if form == "case":
        return _pushed(term[2], condition[2]) if condition[1] == term[1] else FALSE
    return FALSE if head == "none" else _pushed(term[1], condition[1])


def _pushed_set(term, letters):
    """The same for a term that puts a letter together, and the letters of a set."""
    form = term[0]
    if form == "case":
        return _pushed(term[2], ("in", letters[1][term[1]]))
    if form == "some":
        return _pushed(term[1], ("in", letters[2]))
    return any_of([
        all_of([_pushed(term[1], ("in", firsts)), _pushed(term[2], ("in", row))]) for firsts, row in letters[1]
    ])

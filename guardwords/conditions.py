"""Conditions on letters: which fit a kind, and which letters meet them."""

from guardwords.errors import BadCondition
from guardwords.letters import check_letter
from guardwords.membership import contains, is_set_of

INTEGER_FORMS = ("<", "=", ">", "mod")


def check_condition(kind, condition):
    """Raise BadCondition if the condition does not fit the kind."""
    if not fits(kind, condition):
        raise BadCondition("a condition does not fit the kind")


def check_conditions(kind, conditions):
    """Raise BadCondition if one of the conditions does not fit the kind."""
    for condition in conditions:
        check_condition(kind, condition)


def fits(kind, condition):
    """Whether the condition fits the kind."""
    head = condition[0]
    if head in ("true", "false"):
        return True
    if head in ("not", "and", "or"):
        return all(fits(kind, inner) for inner in condition[1:])
    if head == "in":
        return is_set_of(kind, condition[1])
    if kind[0] == "names":
        return head == "is" and condition[1] in kind[1]
    if kind[0] == "integers":
        return head in INTEGER_FORMS
    if kind[0] == "pair":
        return head == "first" and fits(kind[1], condition[1]) or head == "second" and fits(kind[2], condition[1])
    if kind[0] == "either":
        return head == "case" and condition[1] < len(kind[1]) and fits(kind[1][condition[1]], condition[2])
    return head == "none" or head == "some" and fits(kind[1], condition[1])


def meets(kind, condition, letter):
    """Whether the letter meets the condition."""
    check_condition(kind, condition)
    check_letter(kind, letter)
    return is_met(condition, letter)


def is_met(condition, letter):
    """Whether the letter meets the condition, which fits its kind."""
    head = condition[0]
    if head in ("true", "false"):
        return head == "true"
    if head == "not":
        return not is_met(condition[1], letter)
    if head == "and":
        return is_met(condition[1], letter) and is_met(condition[2], letter)
    if head == "or":
        return is_met(condition[1], letter) or is_met(condition[2], letter)
    if head == "in":
        return contains(condition[1], letter)
    if head == "is":
        return letter == condition[1]
    if head in INTEGER_FORMS:
        return meets_number(condition, letter)
    return _part_meets(condition, letter)


def meets_number(condition, number):
    """Whether the integer meets a condition of one of the forms for integers alone."""
    head = condition[0]
    if head == "<":
        return number < condition[1]
    if head == "=":
        return number == condition[1]
    if head == ">":
        return number > condition[1]
    return (number - condition[2]) % condition[1] == 0


def _part_meets(condition, letter):
    head = condition[0]
    if head == "first":
        return is_met(condition[1], letter[1])
    if head == "second":
        return is_met(condition[1], letter[2])
    if head == "case":
        return letter[1] == condition[1] and is_met(condition[2], letter[2])
    if head == "none":
        return letter == ("none",)
    return letter != ("none",) and is_met(condition[1], letter[1])

"""How far the integers in conditions go, and the periods with which what they tell comes back.

The span of conditions is the pair of the numbers N and L of the document: integers beyond N, on both sides, that differ
by a multiple of L meet the same ones of the conditions.
"""

from math import lcm


def span_of(conditions):
    """The span of several conditions together."""
    return _joined([_span(condition) for condition in conditions])


def _span(condition):
    head = condition[0]
    if head in ("<", "=", ">"):
        return (abs(condition[1]), 1)
    if head == "mod":
        return (0, condition[1])
    if head == "in":
        return set_span(condition[1])
    return span_of([inner for inner in condition[1:] if isinstance(inner, tuple)])


def set_span(letters):
    """The span of a letter set."""
    head = letters[0]
    if head == "names":
        return (0, 1)
    if head == "integers":
        low, below = letters[1]
        high, above = letters[3]
        return (max([-low, high] + [abs(number) for number in letters[2]]), lcm(len(below), len(above)))
    if head == "pairs":
        return _joined([set_span(part) for row in letters[1] for part in row])
    if head == "either":
        return _joined([set_span(part) for part in letters[1]])
    return set_span(letters[2])


def _joined(spans):
    bound = 0
    period = 1
    for reach, length in spans:
        bound = max(bound, reach)
        period = lcm(period, length)
    return (bound, period)

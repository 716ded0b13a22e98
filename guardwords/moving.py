"""Conditions on integers, and letter sets of integers, moved along a line: y is sign * x + n; the sign is 1 or -1."""

from guardwords.integers import has_integer, integer_set
from guardwords.spans import set_span

TURNED = {"<": ">", ">": "<", "=": "="}


def moved(condition, sign, n):
    """A condition that x meets exactly if y meets this one, which is of a form for integers alone or an "in"."""
    head = condition[0]
    if head == "in":
        return ("in", moved_set(condition[1], sign, n))
    if head == "mod":
        return ("mod", condition[1], sign * (condition[2] - n) % condition[1])
    return (head if sign == 1 else TURNED[head], sign * (condition[1] - n))


def moved_set(letters, sign, n):
    """The letter set of the integers x whose y is in this letter set."""
    bound, period = set_span(letters)
    reach = bound + abs(n)
    furthest = reach + period
    met = {number: has_integer(letters, sign * number + n) for number in range(-furthest, furthest + 1)}
    return integer_set(met, reach, period)

"""Expressions entered under numbers, so that what stands in many places is worked on once."""

from guardwords.conditions import is_met
from guardwords.phrases import EMPTY, VOID, empty_by_parts, folded


class Book:
    """Expressions, each under a number of its own, behind the numbers of its parts.

    told has the expressions, parts the numbers of their parts, and empties whether they mean the word without letters.
    """

    def __init__(self):
        self.told = []
        self.parts = []
        self.empties = []
        self.number_of = {}

    def enter(self, expression):
        """The number of the expression, which is entered with all that stands in it."""
        return folded(expression, lambda inner, numbers: self._number(inner, tuple(numbers)))

    def _number(self, expression, parts):
        # Parts are told by their numbers: an expression itself may be nested too deep for the key of a dict.
        key = (expression[0], repr(expression[1])) if expression[0] == "letter" else (expression[0],) + parts
        if key not in self.number_of:
            self.number_of[key] = len(self.told)
            self.told.append(expression)
            self.parts.append(parts)
            self.empties.append(empty_by_parts(expression[0], [self.empties[part] for part in parts]))
        return self.number_of[key]

    def _joined(self, head, parts):
        """The number of the expression with this head and with the parts of these numbers."""
        return self._number((head,) + tuple([self.told[part] for part in parts]), parts)

    def within(self, number):
        """The ascending list of the number and the numbers of all that stands in its expression."""
        known = {number: True}
        waiting = [number]
        while waiting:
            at = waiting.pop()
            for part in self.parts[at]:
                if part not in known:
                    known[part] = True
                    waiting.append(part)
        return sorted(known)

    def derivative(self, number, letter):
        """The number of the derivative of an expression by the letter."""
        derived = {}
        for at in self.within(number):
            derived[at] = self._derived(at, letter, derived)
        return derived[number]

    def _derived(self, number, letter, derived):
        """The number of the derivative; derived has those of the parts."""
        expression = self.told[number]
        parts = self.parts[number]
        head = expression[0]
        if head in ("void", "empty", "letter"):
            met = head == "letter" and is_met(expression[1], letter)
            return self._number(EMPTY if met else VOID, ())
        if head == "star":
            return self._joined("then", (derived[parts[0]], number))
        if head != "then":
            return self._joined(head, tuple([derived[part] for part in parts]))
        begun = self._joined("then", (derived[parts[0]], parts[1]))
        return self._joined("or", (begun, derived[parts[1]])) if self.empties[parts[0]] else begun

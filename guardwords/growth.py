"""How fast the number of words that a machine takes grows with their length."""

from guardwords.forming import least_form, walker_over_form
from guardwords.ordering import Order
from guardwords.reaching import first_word_from, reached_later, useful_targets
from guardwords.sets import size
from guardwords.walking import Walker


class Circles:
    """The states of a least form from which words are taken, and the circles on which they lie.

    letters tells for each state, by the states to which letters lead from it, how many letters do, None for endlessly
    many. later has for each state the states to which words other than the empty one lead from it.
    """

    def __init__(self, walker):
        targets = useful_targets(walker)
        self.letters = [
            {target: _many_letters(walker, state, target) for target in row} for state, row in enumerate(targets)
        ]
        self.later = reached_later(targets)

    def around(self, state):
        """The states on circles with this one, ascending; none if it lies on no circle."""
        return [other for other in self.later[state] if state in self.later[other]]

    def is_branching(self, state):
        """Whether two letters lead from the state to states on circles with it."""
        around = self.around(state)
        many = [letters for other, letters in self.letters[state].items() if other in around]
        return None in many or sum(many) > 1


def _many_letters(walker, state, target):
    division = walker.division
    return size(division.kind, division.letters_in([target in row[state] for row in walker.moves]))


def degree(machine):
    """The degree of the machine, or None if there is none."""
    circles = Circles(walker_over_form(least_form(machine)))
    states = range(len(circles.letters))
    if any([None in list(row.values()) for row in circles.letters]):
        return None
    if any([circles.is_branching(state) for state in states]):
        return None
    # Where nothing branches, the states on circles with a state make one circle, and its least state stands for it.
    heads = [state for state in states if circles.around(state)[:1] == [state]]
    return max(0, _most_passed(circles, heads) - 1)


def _most_passed(circles, heads):
    """The greatest number of circles, told by their heads, that one word can pass."""
    most = {}
    # From a circle more states are reached than from each other one to which it leads.
    for _, head in sorted([(len(circles.later[state]), state) for state in heads]):
        most[head] = 1 + max([many for other, many in most.items() if other in circles.later[head]], default=0)
    return max(list(most.values()), default=0)


def doubling(machine):
    """The doubling of the machine, or None if it doubles at no state."""
    form = least_form(machine)
    walker = walker_over_form(form)
    circles = Circles(walker)
    for state, word in enumerate(form.words):
        if any([circles.is_branching(other) for other in circles.around(state)]):
            return (word,) + _two_ways_back(walker, state) + (first_word_from(walker, (state,)),)
    return None


def _two_ways_back(walker, state):
    """The first two words of the least length of which two words lead from the state back to it."""
    order = Order(Walker(walker.division, (state,), (state,), walker.moves))
    length = 1
    while order.many_words((state,), length) in (0, 1):
        length += 1
    first = order.first_of((state,), length)
    return (first, order.next_beside(first))

"""Two translations of the same kinds beside each other: pairs of states, double steps, and what was written more.

A delay is (side, word): the translation of this side has written the word more than the other one.
"""

from guardwords.errors import OtherKinds
from guardwords.membership import first_shared
from guardwords.outputs import end_words_of, given_by, sets_of, step_conditions, steps_of
from guardwords.parting import constant_letter, first_parting
from guardwords.reaching import reached, turned

EVEN = (0, ())


class Double:
    """Two translations beside each other.

    shared keeps the first letter that meets both conditions of two steps, and partings the first letters at which two
    terms part under both of them. ends has the end words of each state, for both sides.
    """

    def __init__(self, first, second):
        if first[:2] != second[:2]:
            raise OtherKinds("the two translations do not have the same kinds")
        self.kind = first[0]
        self.pairs = [(p, q) for p in range(first[2]) for q in range(second[2])]
        self.starts = [(p, q) for p in first[3] for q in second[3]]
        self.ends = (end_words_of(first), end_words_of(second))
        self.steps = (first[5], second[5])
        self.sets = (sets_of(self.kind, step_conditions(first)), sets_of(self.kind, step_conditions(second)))
        self.numbers = (steps_of(first), steps_of(second))
        self.shared = {}
        self.partings = {}

    def steps_from(self, pair):
        """The double steps from the pair: triples of the numbers of two steps and of the first letter for both."""
        told = [(i, j, self._letter(i, j)) for i in self.numbers[0][pair[0]] for j in self.numbers[1][pair[1]]]
        return [(i, j, letter) for i, j, letter in told if letter is not None]

    def _letter(self, i, j):
        if (i, j) not in self.shared:
            self.shared[(i, j)] = first_shared(self.kind, self.sets[0][i], self.sets[1][j])
        return self.shared[(i, j)]

    def target(self, i, j):
        """The pair to which the two steps lead."""
        return (self.steps[0][i][3], self.steps[1][j][3])

    def has_ends(self, pair):
        """Whether both states have end words."""
        return self.ends[0][pair[0]] != [] and self.ends[1][pair[1]] != []

    def dead_pairs(self):
        """The ascending list of the pairs from which no word leads to ends."""
        number_of = {pair: at for at, pair in enumerate(self.pairs)}
        targets = [[number_of[self.target(i, j)] for i, j, letter in self.steps_from(pair)] for pair in self.pairs]
        alive = reached(turned(targets), [at for at, pair in enumerate(self.pairs) if self.has_ends(pair)])
        return [pair for at, pair in enumerate(self.pairs) if at not in alive]

    def is_even_at(self, pair, delay):
        """Whether with this delay all end words of the two states come to the same."""
        return all([
            left_over(delay, one, other) == EVEN for one in self.ends[0][pair[0]] for other in self.ends[1][pair[1]]
        ])

    def condition(self, i, j):
        """The condition that is met if both steps can be taken."""
        return ("and", self.steps[0][i][1], self.steps[1][j][1])

    def terms(self, delay, i, j):
        """The terms of the two steps, behind the letters of the delay."""
        side, word = delay
        before = tuple([("always", letter) for letter in word])
        one, other = self.steps[0][i][2], self.steps[1][j][2]
        return (before + one, other) if side == 0 else (one, before + other)

    def parting(self, i, j, one, other):
        """The first letter for both steps at which the two terms part, or None if there is none."""
        # Terms may be nested too deep for the key of a dict: their text is the key.
        key = (i, j, repr(one), repr(other))
        if key not in self.partings:
            self.partings[key] = first_parting(self.kind, self.condition(i, j), one, other)
        return self.partings[key]

    def next_delay(self, delay, i, j):
        """The delay behind a double step, or None if it is not the same for all letters."""
        one, other = self.terms(delay, i, j)
        if any([self.parting(i, j, term, beside) is not None for term, beside in zip(one, other)]):
            return None
        many = min(len(one), len(other))
        letters = [constant_letter(self.kind, self.condition(i, j), term) for term in one[many:] + other[many:]]
        if None in letters:
            return None
        return (1 if len(other) > many else 0, tuple(letters))

    def delay_by(self, delay, i, j, letter):
        """The delay behind a double step by this letter, or None if what was written differs."""
        return left_over(delay, given_by(self.steps[0][i][2], letter), given_by(self.steps[1][j][2], letter))


def left_over(delay, one, other):
    """The delay behind two words that are written after a delay, or None if what was written differs."""
    side, word = delay
    if side == 0:
        one = word + one
    else:
        other = word + other
    many = min(len(one), len(other))
    if one[:many] != other[:many]:
        return None
    return (1, other[many:]) if len(other) > many else (0, one[many:])

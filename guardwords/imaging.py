"""Machines that take what plain translations write."""

from guardwords.composing import exactly
from guardwords.joining import products
from guardwords.membership import first_shared
from guardwords.outputs import end_words_of, sets_of, step_conditions
from guardwords.reaching import reached
from guardwords.sets import common
from guardwords.terms import given_set
from guardwords.trimming import trimmed_machine
from guardwords.walking import conditions_of


class Writing:
    """A machine over the other kind that is made state by state; silent steps are read without a letter.

    letters has the triples of a state, a condition and a state, and silent the pairs of states.
    """

    def __init__(self, many):
        self.many = many
        self.letters = []
        self.silent = []
        self.ends = []

    def new_state(self):
        """The number of a further state."""
        self.many += 1
        return self.many - 1

    def add_way(self, state, conditions, target):
        """A way from the state to the target that reads one letter for each of the conditions."""
        for condition in conditions[:-1]:
            further = self.new_state()
            self.letters.append((state, condition, further))
            state = further
        if conditions:
            self.letters.append((state, conditions[-1], target))
        else:
            self.silent.append((state, target))

    def machine(self, kind, starts):
        """The machine with these starts, without silent steps: what comes behind them is put before them."""
        at_once = [[] for _ in range(self.many)]
        for state, target in self.silent:
            at_once[state].append(target)
        reading = [[] for _ in range(self.many)]
        for state, condition, target in self.letters:
            reading[state].append((condition, target))
        behind = [reached(at_once, (state,)) for state in range(self.many)]
        steps = [
            (state, condition, target)
            for state, told in enumerate(behind) for at in told for condition, target in reading[at]
        ]
        ends = [state for state, told in enumerate(behind) if any([at in self.ends for at in told])]
        return trimmed_machine(kind, self.many, starts, ends, steps)


def image_of(translation, machine):
    """A machine that takes the results by a plain translation of what the machine takes."""
    many = machine[1]
    writing = Writing(translation[2] * many)
    _add_steps(writing, translation, machine)
    last = writing.new_state()
    writing.ends.append(last)
    for state, words in enumerate(end_words_of(translation)):
        for word in words:
            begin = writing.new_state()
            writing.add_way(begin, [exactly(letter) for letter in word], last)
            writing.silent.extend([(state * many + end, begin) for end in machine[3]])
    return writing.machine(translation[1], products(translation[3], machine[2], many))


def _add_steps(writing, translation, machine):
    kind, other = translation[:2]
    many = machine[1]
    told = sets_of(kind, step_conditions(translation))
    asked = sets_of(kind, conditions_of(machine))
    for (state, _, terms, target), letters in zip(translation[5], told):
        for (at, _, behind), wanted in zip(machine[4], asked):
            if first_shared(kind, letters, wanted) is not None:
                met = common(kind, letters, wanted)
                conditions = [("in", given_set(kind, other, term, met)) for term in terms]
                writing.add_way(state * many + at, conditions, target * many + behind)

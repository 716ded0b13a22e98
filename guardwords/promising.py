"""What all results of a translation begin with, from each of its states."""

from guardwords.conditions import is_met
from guardwords.outputs import end_words_of, given_by
from guardwords.parting import constant_letter
from guardwords.solver import first_met


class Promise:
    """A translation, and for each state what everything that is written from it to an end begins with.

    ahead has None for a state from which no word leads to an end. steps are the steps that some letter can take, as
    (state, what all its letters write first, whether this is all that they write, state).
    """

    def __init__(self, translation):
        self.translation = translation
        self.ends = end_words_of(translation)
        firsts = [first_met(translation[0], condition) for state, condition, terms, target in translation[5]]
        taken = [(step, letter) for step, letter in zip(translation[5], firsts) if letter is not None]
        self.steps = [_fixed_part(translation[0], step) for step, letter in taken]
        self.ahead = self._narrowed(self._some_results(taken))

    def _some_results(self, taken):
        """For each state some word that is written from it to an end, or None if there is none."""
        told = [words[0] if words else None for words in self.ends]
        for _ in range(len(told)):
            for (state, condition, terms, target), letter in taken:
                if told[state] is None and told[target] is not None:
                    told[state] = given_by(terms, letter) + told[target]
        return told

    def _narrowed(self, told):
        """What is left of some results when, again and again, all that is written from each state is looked at."""
        while True:
            shorter = [self._common_from(state, told) for state in range(len(told))]
            if shorter == told:
                return told
            told = shorter

    def _common_from(self, state, told):
        words = [told[state]] + self.ends[state]
        for source, before, whole, target in self.steps:
            if source == state and told[target] is not None:
                words.append(before + told[target] if whole else before)
        return common_beginning(words)

    def certain_at(self, word):
        """What all results of all words that begin with this one begin with, or None if there are none."""
        told = self.ahead
        for letter in reversed(word):
            told = [self._common_by(state, letter, told) for state in range(len(told))]
        return common_beginning([told[state] for state in self.translation[3]])

    def _common_by(self, state, letter, told):
        """The same from a state if the letter is read first; told has it behind the letter."""
        return common_beginning([
            given_by(terms, letter) + told[target] for source, condition, terms, target in self.translation[5]
            if source == state and told[target] is not None and is_met(condition, letter)
        ])


def _fixed_part(kind, step):
    state, condition, terms, target = step
    before = ()
    for term in terms:
        letter = constant_letter(kind, condition, term)
        if letter is None:
            return (state, before, False, target)
        before = before + (letter,)
    return (state, before, True, target)


def common_beginning(words):
    """The longest word with which all of the words begin; None stands for no word, also as the answer."""
    there = [word for word in words if word is not None]
    if not there:
        return None
    many = min([len(word) for word in there])
    first = there[0]
    for at in range(many):
        if any([word[at] != first[at] for word in there]):
            return first[:at]
    return first[:many]

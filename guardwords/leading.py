"""Translations that lead the words of one machine into the language of another one."""

from guardwords.coupling import check_over
from guardwords.joining import not_taken
from guardwords.membership import first_shared
from guardwords.outputs import Telling, behind_word, end_words_of, sets_of, steps_of
from guardwords.searching import Once, first_word_along
from guardwords.translations import inverse
from guardwords.walking import conditions_of


class Lead:
    """A translation, a machine over its kind, and a machine over its other kind.

    A triple is a state of the translation, a state of the first machine, and a set of states of the second one.
    """

    def __init__(self, translation, first, second):
        check_over(first, translation[0])
        check_over(second, translation[1])
        self.translation = translation
        self.first = first
        self.second = second
        self.ends = end_words_of(translation)
        self.numbers = steps_of(translation)
        self.asked = sets_of(first[0], conditions_of(first))
        self.told = {}
        self.sets_behind = {}

    def first_triples(self):
        """The triples in front of all words."""
        return [(q, a, self.second[2]) for q in self.translation[3] for a in self.first[2]]

    def ways_from(self, triple):
        """The pairs of a letter and of a triple to which it leads.

        For each two steps, and each class of letters that lead on alike, it is the first letter.
        """
        state, at, states = triple
        ways = []
        for number in self.numbers[state]:
            target = self.translation[5][number][3]
            for source, further, letter, word in self._letters(number):
                if source == at:
                    ways.append((letter, (target, further, self._set_behind(states, word))))
        return ways

    def _letters(self, number):
        """For this step: the ways of the first machine by letters of the step, class by class, and what is written.

        They are (state, state to which the way leads, letter, word).
        """
        if number not in self.told:
            telling = Telling(self.first[0], self.translation[5][number], conditions_of(self.second))
            ways = []
            for at, word in telling.words:
                letters = telling.letters_in([at])
                for (source, _, further), wanted in zip(self.first[4], self.asked):
                    letter = first_shared(self.first[0], letters, wanted)
                    if letter is not None:
                        ways.append((source, further, letter, word))
            self.told[number] = ways
        return self.told[number]

    def _set_behind(self, states, word):
        if (states, word) not in self.sets_behind:
            self.sets_behind[(states, word)] = behind_word(self.second, states, word)
        return self.sets_behind[(states, word)]

    def is_missed(self, triple):
        """Whether the word ends here with a result that the second machine does not take."""
        state, at, states = triple
        return at in self.first[3] and any([not self._has_end(states, word) for word in self.ends[state]])

    def _has_end(self, states, word):
        return any([end in self.second[3] for end in self._set_behind(states, word)])


def leads(translation, first, second):
    """The first word of the first machine with a result that the second one does not take, or None."""
    lead = Lead(translation, first, second)
    known = Once()
    return first_word_along(first[0], lead.first_triples(), lead.ways_from, lead.is_missed, known.is_new)


def lead_table(translation, first, second):
    """The triples to which words lead, ascending."""
    lead = Lead(translation, first, second)
    found = {triple: True for triple in lead.first_triples()}
    waiting = list(found)
    at = 0
    while at < len(waiting):
        triple = waiting[at]
        for letter, target in lead.ways_from(triple):
            if target not in found:
                found[target] = True
                waiting.append(target)
        at += 1
    return tuple(sorted(found))


def check_lead(translation, first, second, triples):
    """Whether the triples close."""
    lead = Lead(translation, first, second)
    found = {triple: True for triple in triples}
    if any([lead.is_missed(triple) for triple in found]):
        return False
    asked = lead.first_triples() + [target for triple in found for letter, target in lead.ways_from(triple)]
    return all([triple in found for triple in asked])


def safe(translation, machine):
    """A machine that takes the words of which this machine takes all results."""
    check_over(machine, translation[1])
    return not_taken(inverse(translation, not_taken(machine)))

"""What the steps of translations write, and how machines and other translations read it."""

from guardwords.conditions import is_met
from guardwords.dividing import Division
from guardwords.letters import word_rank
from guardwords.pushing import condition_before
from guardwords.sets import letters_of
from guardwords.terms import gives
from guardwords.walking import behind_letter


def end_words_of(translation):
    """For each state of the translation the list of its end words."""
    told = [[] for _ in range(translation[2])]
    for state, word in translation[4]:
        told[state].append(word)
    return told


def steps_of(translation):
    """For each state of the translation the list of the numbers of the steps from it."""
    told = [[] for _ in range(translation[2])]
    for number, step in enumerate(translation[5]):
        told[step[0]].append(number)
    return told


def sets_of(kind, conditions):
    """The letter sets of the conditions."""
    known = {repr(condition): condition for condition in conditions}
    sets = {text: letters_of(kind, condition) for text, condition in known.items()}
    return [sets[repr(condition)] for condition in conditions]


def step_conditions(translation):
    """The conditions of the steps of the translation."""
    return [condition for state, condition, terms, target in translation[5]]


def given_by(terms, letter):
    """The word of the letters that the terms, which are there for the letter, give."""
    return tuple([gives(term, letter) for term in terms])


def behind_word(machine, states, word):
    """The set behind a set of states of the machine by a word of its kind."""
    for letter in word:
        states = behind_letter(machine, states, letter)
    return states


class Telling:
    """The letters that meet the condition of a step, in classes.

    The letters of one class give letters that meet the same ones of some conditions on the other kind. words has for
    each class the pair of its number in the division and of the word that its first letter gives.
    """

    def __init__(self, kind, step, conditions):
        state, condition, terms, target = step
        told = [condition_before(term, wanted) for term in terms for wanted in conditions]
        self.division = Division(kind, [condition] + told)
        met = self.division.met(condition)
        firsts = self.division.firsts
        self.words = [(number, given_by(terms, letter)) for number, letter in enumerate(firsts) if met[number]]

    def letters_in(self, numbers):
        """The letter set of the letters of the classes with these numbers."""
        return self.division.letters_in([number in numbers for number in range(len(self.division.firsts))])


def results_from(translation, states, word):
    """The results of the word, one over its kind, from some states, each once, in no order that is told."""
    ends = end_words_of(translation)
    rounds = [_moves(translation, letter) for letter in word]
    able = _able_states(rounds, [state for state, words in enumerate(ends) if words])
    found = {(state, ()): True for state in states if state in able[0]}
    for moves, allowed in zip(rounds, able[1:]):
        found = {
            (target, before + told): True
            for state, before in found for told, target in moves[state] if target in allowed
        }
    return list({before + told: True for state, before in found for told in ends[state]})


def _moves(translation, letter):
    """For each state the pairs of what is written for the letter, and of the state to which it leads."""
    told = [[] for _ in range(translation[2])]
    for state, condition, terms, target in translation[5]:
        if is_met(condition, letter):
            told[state].append((given_by(terms, letter), target))
    return told


def _able_states(rounds, ends):
    """For each place in a word the states from which what is left of the word leads to ends."""
    able = [ends]
    for moves in reversed(rounds):
        allowed = able[-1]
        able.append([state for state, told in enumerate(moves) if any([target in allowed for _, target in told])])
    return able[::-1]


def least_result(translation, word, machine):
    """The first result of the word that the machine takes, or None if it takes none of them.

    Of what is written up to a pair of a state and a set of states of the machine only the first word is kept: what
    follows is the same for all of them.
    """
    found = {(state, machine[2]): () for state in translation[3]}
    for letter in word:
        moves = _moves(translation, letter)
        longer = {}
        for (state, behind), before in found.items():
            for told, target in moves[state]:
                thing = (target, behind_word(machine, behind, told))
                longer.setdefault(thing, []).append(before + told)
        found = {thing: first_of_words(machine[0], words) for thing, words in longer.items()}
    ends = end_words_of(translation)
    words = [
        before + told for (state, behind), before in found.items() for told in ends[state]
        if any([end in machine[3] for end in behind_word(machine, behind, told)])
    ]
    return first_of_words(machine[0], words)


def first_of_words(kind, words):
    """The first one of some words over the kind, or None if there are none."""
    return min(words, key=lambda word: word_rank(kind, word)) if words else None

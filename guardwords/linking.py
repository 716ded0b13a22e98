"""One translation behind another one."""

from guardwords.conditions import is_met
from guardwords.joining import products
from guardwords.outputs import Telling, end_words_of, results_from, step_conditions
from guardwords.terms import put_behind
from guardwords.trimming import trimmed_translation


def translation_behind(first, second):
    """The translation with the results that the second one has for the results of the first one.

    Its states are pairs of a state of the first and a state of the second translation.
    """
    many = second[2]
    steps = []
    for step in first[5]:
        telling = Telling(first[0], step, step_conditions(second))
        for state in range(many):
            for terms, target, letters in _ways_from(telling, step[2], second, state):
                steps.append((step[0] * many + state, ("in", letters), terms, step[3] * many + target))
    ends = [
        (state * many + at, word) for state, words in enumerate(end_words_of(first)) for at in range(many)
        for word in _end_words(second, at, words)
    ]
    starts = products(first[3], second[3], many)
    return trimmed_translation((first[0], second[1]), first[2] * many, starts, ends, steps)


def _end_words(second, state, words):
    """What the second translation writes, from the state, for one of the words; each word once."""
    return list({told: True for word in words for told in results_from(second, (state,), word)})


def _ways_from(telling, terms, second, state):
    """The ways of the second translation, from the state, on what the terms give.

    They are triples of the terms that are written, the state behind them, and the letter set of the letters for it.
    """
    found = {}
    for number, word in telling.words:
        for told, target in _ways_on(second, state, terms, word):
            # Terms may be nested too deep for the key of a dict: their text is the key.
            found.setdefault((repr(told), target), (told, target, []))[2].append(number)
    return [(told, target, telling.letters_in(numbers)) for told, target, numbers in found.values()]


def _ways_on(second, state, terms, word):
    """The pairs of terms that are written, and of the state behind them; the terms give the letters of the word."""
    ways = [((), state)]
    for term, letter in zip(terms, word):
        longer = {}
        for before, at in ways:
            for source, condition, behind, target in second[5]:
                if source == at and is_met(condition, letter):
                    told = before + tuple([put_behind(term, part) for part in behind])
                    longer[(repr(told), target)] = (told, target)
        ways = list(longer.values())
    return ways

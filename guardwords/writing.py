"""What is certain of the results of a translation while only the beginning of a word is known."""

from guardwords.composing import TRUE, exactly
from guardwords.continuing import rest
from guardwords.letters import check_word
from guardwords.machines import first_word
from guardwords.outputs import least_result
from guardwords.promising import Promise
from guardwords.translations import domain, inverse


def certain(translation, word):
    """What is certain at the word, or None if no word that begins so has a result."""
    check_word(translation[0], word)
    return Promise(translation).certain_at(word)


def written(translation, word):
    """Yield for each beginning of the word the letters that become certain there, as long as there are results."""
    check_word(translation[0], word)
    promise = Promise(translation)
    many = 0
    for at in range(len(word) + 1):
        told = promise.certain_at(word[:at])
        if told is None:
            return
        yield told[many:]
        many = len(told)


def doubt(translation, word):
    """What shows that nothing more is certain at the word, or None if no word that begins so has a result."""
    told = certain(translation, word)
    if told is None:
        return None
    other = translation[1]
    everything = (other, 1, (0,), (0,), ((0, TRUE, 0),))
    longer = word + first_word(rest(domain(translation), word))
    result = least_result(translation, longer, everything)
    if result == told:
        return ((longer, result), None)
    unlike = _not_beginning(other, result[:len(told) + 1])
    further = word + first_word(rest(inverse(translation, unlike), word))
    return ((longer, result), (further, least_result(translation, further, unlike)))


def _not_beginning(kind, word):
    """A machine that takes the words that do not begin with this one, which is not empty."""
    last = len(word)
    steps = [(at, exactly(letter), at + 1) for at, letter in enumerate(word[:-1])]
    away = [(at, ("not", exactly(letter)), last) for at, letter in enumerate(word)]
    return (kind, last + 1, (0,), tuple(range(last + 1)), tuple(steps + away + [(last, TRUE, last)]))

"""The determined form and the least form of a machine, and the words that show how many states it needs."""

from guardwords.forming import determined_form, least_form, machine_of
from guardwords.pairing import parting_words
from guardwords.walking import behind_letter


def determined(machine):
    """The determined form of the machine."""
    return machine_of(determined_form(machine))


def least(machine):
    """The least form of the machine."""
    return machine_of(least_form(machine))


def first_words(machine):
    """The first words of the states of the least form."""
    return tuple(least_form(machine).words)


def partings(machine):
    """For each state i of the least form the partings of i and each j > i."""
    form = least_form(machine)
    many = len(form.rows)
    words = parting_words(form)
    return tuple([tuple([words[(i, j)] for j in range(i + 1, many)]) for i in range(many)])


def holds_against(machine, words, partings):
    """Whether the words and the partings show that the machine needs at least as many states as there are words."""
    known = {}
    behind = [_behind(machine, known, machine[2], word) for word in words]
    for i in range(len(words)):
        for j in range(i + 1, len(words)):
            parting = partings[i][j - i - 1]
            one = _has_end(machine, _behind(machine, known, behind[i], parting))
            if one == _has_end(machine, _behind(machine, known, behind[j], parting)):
                return False
    return True


def _behind(machine, known, states, word):
    """The set behind the states by the word; known keeps what was found for a set and a letter."""
    for letter in word:
        if (states, letter) not in known:
            known[(states, letter)] = behind_letter(machine, states, letter)
        states = known[(states, letter)]
    return states


def _has_end(machine, states):
    return any([state in machine[3] for state in states])

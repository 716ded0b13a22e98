"""Words as actions on the states of the least form of a machine."""

from guardwords.errors import TooMany
from guardwords.forming import least_form
from guardwords.pairing import merging_words
from guardwords.walking import Search, first_word_to

MOST_ACTIONS = 60
MOST_STATES = 8


def action(machine, word):
    """For each state of the least form the state to which the word leads from it."""
    return _action(least_form(machine), word)


def _action(form, word):
    states = _nothing_read(form)
    for letter in word:
        states = _acted(form, states, form.division.class_of(letter))
    return states


def _nothing_read(form):
    """The action of the word without letters."""
    return tuple(range(len(form.rows)))


def _acted(form, states, number):
    """The states to which a letter of the class leads from these."""
    return tuple([form.rows[state][number] for state in states])


def actions(machine):
    """For each action the pair of the first word that has it and of the action, in the order of these words."""
    return _actions(least_form(machine))


def _actions(form):
    search = Search(_nothing_read(form))
    at = 0
    while at < len(search.found):
        for number, letter in enumerate(form.division.firsts):
            search.number_for(_acted(form, search.found[at], number), search.words[at] + (letter,))
            if len(search.found) > MOST_ACTIONS:
                raise TooMany("the machine has too many actions")
        at += 1
    return tuple(zip(search.words, search.found))


def context(machine, first, second):
    """The first pair of words between which exactly one of the two words is taken, or None if they act alike."""
    form = least_form(machine)
    pairs = list(zip(_action(form, first), _action(form, second)))
    differing = [state for state, (one, other) in enumerate(pairs) if one != other]
    if not differing:
        return None
    # States are numbered in the order of their first words, and different states are apart.
    state = differing[0]
    return (form.words[state], _parting(form, pairs[state]))


def _parting(form, pair):
    """The first word that is taken from exactly one of the two states."""
    return first_word_to(
        pair,
        form.division.firsts,
        lambda states, number: _acted(form, states, number),
        lambda states: form.ends[states[0]] != form.ends[states[1]],
    )


def letter_classes(machine):
    """The letter sets of the classes of letters that act alike, in the order of their first letters."""
    form = least_form(machine)
    everywhere = _nothing_read(form)
    columns = [_acted(form, everywhere, number) for number in range(len(form.division.firsts))]
    different = {column: True for column in columns}
    return tuple([form.division.letters_in([told == column for told in columns]) for column in different])


def turning_word(machine):
    """The first word that turns, or None if there is none."""
    for word, states in actions(machine):
        if any([_comes_back(states, state) for state in range(len(states))]):
            return word
    return None


def _comes_back(states, state):
    """Whether the state is left and comes back if the action is taken several times."""
    if states[state] == state:
        return False
    at = states[state]
    for _ in states:
        if at == state:
            return True
        at = states[at]
    return False


def mergings(machine):
    """For each state i of the least form the mergings of i and each j > i; None for one that does not exist."""
    form = least_form(machine)
    many = len(form.rows)
    words = merging_words(form)
    return tuple([tuple([words.get((i, j)) for j in range(i + 1, many)]) for i in range(many)])


def reset_word(machine):
    """The first word that leads from all states of the least form to the same state, or None if there is none."""
    form = least_form(machine)
    if len(form.rows) > MOST_STATES:
        raise TooMany("the least form has too many states")
    return first_word_to(
        _nothing_read(form),
        form.division.firsts,
        lambda states, number: tuple(sorted({form.rows[state][number] for state in states})),
        lambda states: len(states) == 1,
    )

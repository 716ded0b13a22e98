"""Machines and translations without the states that lie on no way from a start to an end."""

from guardwords.reaching import passed


def trimmed_machine(kind, many, starts, ends, steps):
    """The machine with the states that are left, numbered anew; some letter meets the condition of each step."""
    states = passed(many, starts, ends, [(state, target) for state, condition, target in steps])
    number_of = {state: at for at, state in enumerate(states)}
    kept = [
        (number_of[state], condition, number_of[target])
        for state, condition, target in steps if state in number_of and target in number_of
    ]
    return (kind, max(1, len(states)), _numbers(number_of, starts), _numbers(number_of, ends), tuple(kept))


def trimmed_translation(kinds, many, starts, ends, steps):
    """The translation with the states that are left, numbered anew; some letter meets the condition of each step.

    kinds are its two kinds; ends are pairs of a state and an end word.
    """
    ways = [(state, target) for state, condition, terms, target in steps]
    states = passed(many, starts, [state for state, word in ends], ways)
    number_of = {state: at for at, state in enumerate(states)}
    kept = [
        (number_of[state], condition, terms, number_of[target])
        for state, condition, terms, target in steps if state in number_of and target in number_of
    ]
    words = [(number_of[state], word) for state, word in ends if state in number_of]
    return kinds + (max(1, len(states)), _numbers(number_of, starts), tuple(words), tuple(kept))


def _numbers(number_of, states):
    return tuple(sorted([number_of[state] for state in states if state in number_of]))

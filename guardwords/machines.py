"""Machines: the words that they take, traps, and which of them are determined."""

from guardwords.conditions import check_conditions
from guardwords.letters import check_word
from guardwords.reaching import first_word_from, reached, targets_of
from guardwords.walking import behind_letter, conditions_of, walker_of


def check_machine(machine):
    """Raise BadCondition if the condition of a step does not fit the kind."""
    check_conditions(machine[0], conditions_of(machine))


def states_behind(machine, word):
    """The ascending tuple of the states to which the word leads."""
    check_word(machine[0], word)
    states = machine[2]
    for letter in word:
        states = behind_letter(machine, states, letter)
    return states


def takes(machine, word):
    """Whether the machine takes the word."""
    return any([state in machine[3] for state in states_behind(machine, word)])


def first_word(machine):
    """The first word that the machine takes, or None if it takes none."""
    return first_word_from(walker_of(machine), machine[2])


def trap(machine):
    """The ascending tuple of the states to which words lead, or None if the machine takes a word."""
    walker = walker_of(machine)
    states = reached(targets_of(walker), walker.starts)
    return None if walker.has_end(states) else states


def is_trap(machine, states):
    """Whether the states are a trap of the machine."""
    walker = walker_of(machine)
    if walker.has_end(states) or not all([state in states for state in walker.starts]):
        return False
    targets = targets_of(walker)
    return all([target in states for state in states for target in targets[state]])


def undetermined(machine):
    """None if the machine is determined, otherwise the first thing that shows that it is not."""
    if len(machine[2]) != 1:
        return ("starts",)
    walker = walker_of(machine)
    for state in range(machine[1]):
        for number, row in enumerate(walker.moves):
            if len(row[state]) != 1:
                return ("letter", state, walker.division.firsts[number])
    return None

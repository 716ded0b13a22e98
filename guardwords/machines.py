"""Machines: the words that they take, traps, and which of them are determined."""

from guardwords.conditions import check_conditions
from guardwords.dividing import Division
from guardwords.letters import check_word
from guardwords.walking import Walker, behind_letter, conditions_of


def check_machine(machine):
    """Raise BadCondition if the condition of a step does not fit the kind."""
    check_conditions(machine[0], conditions_of(machine))


def states_behind(machine, word):
    """The ascending tuple of the states to which the word leads."""
    check_word(machine[0], word)
    states = machine[2]
    for letter in word:
        states = behind_letter(machine, states, letter)
    return states


def takes(machine, word):
    """Whether the machine takes the word."""
    return any([state in machine[3] for state in states_behind(machine, word)])


def first_word(machine):
    """The first word that the machine takes, or None if it takes none."""
    walker = _walker(machine)
    left = _distances(walker, machine[1])
    there = [left[state] for state in machine[2] if left[state] is not None]
    if not there:
        return None
    word = ()
    states = machine[2]
    for distance in range(min(there) - 1, -1, -1):
        number = _first_class_to(walker, states, left, distance)
        word = word + (walker.division.firsts[number],)
        states = walker.behind(states, number)
    return word


def _walker(machine):
    return Walker(machine, Division(machine[0], conditions_of(machine)))


def _distances(walker, many):
    """For each state the length of the shortest words that are taken from it, or None if there is none."""
    befores = _befores(walker, many)
    left = [0 if state in walker.ends else None for state in range(many)]
    reached = list(walker.ends)
    at = 0
    while at < len(reached):
        target = reached[at]
        for state in befores[target]:
            if left[state] is None:
                left[state] = left[target] + 1
                reached.append(state)
        at += 1
    return left


def _befores(walker, many):
    """For each state the states from which some letter leads to it."""
    befores = [{} for _ in range(many)]
    for row in walker.moves:
        for state, targets in enumerate(row):
            for target in targets:
                befores[target][state] = True
    return befores


def _first_class_to(walker, states, left, distance):
    """The first class whose letters lead from the states to one with this distance from the ends."""
    return min([
        number for number in range(len(walker.moves))
        if distance in [left[state] for state in walker.behind(states, number)]
    ])


def trap(machine):
    """The ascending tuple of the states to which words lead, or None if the machine takes a word."""
    walker = _walker(machine)
    states = _reached(walker)
    return None if walker.has_end(states) else states


def _reached(walker):
    reached = {state: True for state in walker.starts}
    waiting = list(walker.starts)
    while waiting:
        state = waiting.pop()
        for target in _targets(walker, state):
            if target not in reached:
                reached[target] = True
                waiting.append(target)
    return tuple(sorted(reached))


def _targets(walker, state):
    """The states to which some letter leads from the state."""
    return [target for row in walker.moves for target in row[state]]


def is_trap(machine, states):
    """Whether the states are a trap of the machine."""
    walker = _walker(machine)
    if walker.has_end(states) or not all([state in states for state in walker.starts]):
        return False
    return all([target in states for state in states for target in _targets(walker, state)])


def undetermined(machine):
    """None if the machine is determined, otherwise the first thing that shows that it is not."""
    if len(machine[2]) != 1:
        return ("starts",)
    walker = _walker(machine)
    for state in range(machine[1]):
        for number, row in enumerate(walker.moves):
            if len(row[state]) != 1:
                return ("letter", state, walker.division.firsts[number])
    return None

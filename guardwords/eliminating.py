"""Machines made into expressions: states are left out one after another, and expressions stand on what is left."""

from guardwords.building import letters_from
from guardwords.phrases import EMPTY, VOID, any_number, either_of, one_behind
from guardwords.reaching import useful_states


def expression_of(walker):
    """An expression that means the words of the machine."""
    states = useful_states(walker)
    many = len(walker.moves[0])
    ways = _ways(walker, states)
    # Two further states, one before all starts and one behind all ends, are what is left at the end.
    ways.update({(many, state): EMPTY for state in walker.starts if state in states})
    ways.update({(state, many + 1): EMPTY for state in walker.ends if state in states})
    while states:
        _, state = min([(_cost(ways, told), told) for told in states])
        ways = _without(ways, state)
        states = [other for other in states if other != state]
    return ways.get((many, many + 1), VOID)


def _ways(walker, states):
    """For the pairs of states between which letters lead the expressions of these letters."""
    ways = {}
    for state in states:
        for target, letters in letters_from(walker, state):
            if target in states:
                ways[(state, target)] = ("letter", ("in", letters))
    return ways


def _cost(ways, state):
    """How many pairs of states get a way through this one if it is left out."""
    into = [pair for pair in ways if pair[1] == state and pair[0] != state]
    out = [pair for pair in ways if pair[0] == state and pair[1] != state]
    return len(into) * len(out)


def _without(ways, state):
    """The ways between the other states, also through this one."""
    circle = any_number(ways.get((state, state), VOID))
    left = {pair: way for pair, way in ways.items() if state not in pair}
    into = [(before, way) for (before, target), way in ways.items() if target == state and before != state]
    out = [(behind, way) for (source, behind), way in ways.items() if source == state and behind != state]
    for before, way in into:
        for behind, onward in out:
            through = one_behind(way, one_behind(circle, onward))
            left[(before, behind)] = either_of(left.get((before, behind), VOID), through)
    return left

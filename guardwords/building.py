"""Machines made from machines that were gone through by classes of letters."""

from guardwords.reaching import useful_states


def letters_from(walker, state):
    """The pairs of each state to which letters lead from this one, and of the letter set of all these letters."""
    rows = [row[state] for row in walker.moves]
    targets = sorted({target for row in rows for target in row})
    return [(target, walker.division.letters_in([target in row for row in rows])) for target in targets]


def trimmed(walker):
    """A machine with the words of the walker, without states that no word passes that is taken."""
    states = useful_states(walker)
    number_of = {state: at for at, state in enumerate(states)}
    steps = [
        (number_of[state], ("in", letters), number_of[target])
        for state in states for target, letters in letters_from(walker, state) if target in number_of
    ]
    starts = tuple([number_of[state] for state in walker.starts if state in number_of])
    ends = tuple([number_of[state] for state in walker.ends if state in number_of])
    return (walker.division.kind, max(1, len(states)), starts, ends, tuple(steps))

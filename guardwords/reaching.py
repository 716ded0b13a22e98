"""Which states of a machine words reach, from which states ends are reached, and by which first words.

Targets tell for each state the states to which some letter leads from it. What is found here is found without going
through sets of states, of which there may be far more than states.
"""


def targets_of(walker):
    """For each state the states to which some letter leads from it, ascending."""
    many = len(walker.moves[0])
    return [sorted({target for row in walker.moves for target in row[state]}) for state in range(many)]


def turned(targets):
    """For each state the states from which some letter leads to it, ascending."""
    befores = [[] for _ in targets]
    for state, row in enumerate(targets):
        for target in row:
            befores[target].append(state)
    return befores


def reached(targets, starts):
    """The ascending tuple of the states to which words lead from the starts."""
    return tuple([state for state, steps in enumerate(distances(targets, starts)) if steps is not None])


def distances(targets, starts):
    """For each state the length of the shortest words that lead to it from the starts, or None if there is none."""
    lengths = [None] * len(targets)
    for state in starts:
        lengths[state] = 0
    waiting = list(starts)
    at = 0
    while at < len(waiting):
        state = waiting[at]
        for target in targets[state]:
            if lengths[target] is None:
                lengths[target] = lengths[state] + 1
                waiting.append(target)
        at += 1
    return lengths


def reaching_end(walker):
    """The ascending tuple of the states from which some word is taken."""
    return reached(turned(targets_of(walker)), walker.ends)


def useful_states(walker):
    """The ascending list of the states that the words that are taken pass."""
    ending = reaching_end(walker)
    return [state for state in reached(targets_of(walker), walker.starts) if state in ending]


def useful_targets(walker):
    """For each state the states to which some letter leads from it, where words that are taken pass both."""
    useful = useful_states(walker)
    return [
        [target for target in row if state in useful and target in useful]
        for state, row in enumerate(targets_of(walker))
    ]


def passed(many, starts, ends, ways):
    """The ascending list of the states, of so many, that lie on a way from a start to an end.

    ways are pairs of states.
    """
    targets = [[] for _ in range(many)]
    for state, target in ways:
        targets[state].append(target)
    ending = reached(turned(targets), ends)
    return [state for state in reached(targets, starts) if state in ending]


def reached_later(targets):
    """For each state the ascending tuple of the states to which words other than the empty one lead from it."""
    return [reached(targets, row) for row in targets]


def first_word_from(walker, states):
    """The first word that is taken from one of the states, or None if there is none."""
    left = distances(turned(targets_of(walker)), walker.ends)
    there = [left[state] for state in states if left[state] is not None]
    if not there:
        return None
    word = ()
    for distance in range(min(there) - 1, -1, -1):
        number = _first_class_to(walker, states, left, distance)
        word = word + (walker.division.firsts[number],)
        states = walker.behind(states, number)
    return word


def _first_class_to(walker, states, left, distance):
    """The first class whose letters lead from the states to one with this distance from the ends."""
    return min([
        number for number in range(len(walker.moves))
        if distance in [left[state] for state in walker.behind(states, number)]
    ])

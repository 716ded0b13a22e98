"""Machines made from machines: both take, one takes, not taken, followed, repeated, backwards."""

from guardwords.building import trimmed
from guardwords.coupling import check_kinds, walkers_of
from guardwords.forming import Form, least_form, machine_of
from guardwords.walking import Walker


def both_take(first, second):
    """A machine that takes the words that both machines take."""
    one, other = walkers_of(first, second)
    many = second[1]
    pairs = [(p, q) for p in range(first[1]) for q in range(many)]
    moves = [
        [products(row[p], beside[q], many) for p, q in pairs] for row, beside in zip(one.moves, other.moves)
    ]
    starts = products(one.starts, other.starts, many)
    return trimmed(Walker(one.division, starts, products(one.ends, other.ends, many), moves))


def products(states, others, many):
    """The numbers of the pairs of one of the states and one of the others: each number is below many."""
    return tuple([p * many + q for p in states for q in others])


def one_takes(first, second):
    """A machine that takes the words that at least one of the machines takes."""
    check_kinds(first, second)
    many = first[1]
    starts = first[2] + _moved(second[2], many)
    ends = first[3] + _moved(second[3], many)
    return (first[0], many + second[1], starts, ends, first[4] + _moved_steps(second, many))


def _moved(states, many):
    return tuple([state + many for state in states])


def _moved_steps(machine, many):
    return tuple([(state + many, condition, target + many) for state, condition, target in machine[4]])


def not_taken(machine):
    """A machine that takes the words that the machine does not take."""
    form = least_form(machine)
    return machine_of(Form(form.division, form.rows, [not end for end in form.ends], form.words))


def followed(first, second):
    """A machine that takes each word of the first machine followed by each word of the second one."""
    check_kinds(first, second)
    many = first[1]
    starts = _moved(second[2], many)
    steps = first[4] + _steps_on(first, starts) + _moved_steps(second, many)
    # Where the first machine takes the word without letters, the second one may begin at once.
    at_once = starts if _takes_empty(first) else ()
    return (first[0], many + second[1], first[2] + at_once, _moved(second[3], many), _each_once(steps))


def _takes_empty(machine):
    return any([state in machine[3] for state in machine[2]])


def _steps_on(machine, starts):
    """For each step into an end of the machine the steps that lead to the starts instead."""
    return tuple([
        (state, condition, start) for state, condition, target in machine[4] if target in machine[3] for start in starts
    ])


def _each_once(steps):
    # Conditions may be nested too deep for the key of a dict: their text is the key.
    told = {repr(step): step for step in steps}
    return tuple(told.values())


def repeated(machine):
    """A machine that takes any number of words of the machine one behind another, also none."""
    kind, many, starts, ends, steps = machine
    return (kind, many + 1, starts + (many,), ends + (many,), _each_once(steps + _steps_on(machine, starts)))


def backwards(machine):
    """A machine that takes the words of the machine read backwards."""
    kind, many, starts, ends, steps = machine
    return (kind, many, ends, starts, tuple([(target, condition, state) for state, condition, target in steps]))

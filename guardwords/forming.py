"""Determined machines over classes of letters, and the least ones among them."""

from guardwords.dividing import Division
from guardwords.walking import Walker, conditions_of, explored


class Form:
    """A determined machine whose states are numbered in the order of the first words that lead to them.

    rows[state][number] is the state to which the letters of a class of the division lead; ends tells of each state
    whether it is an end; words has the first words.
    """

    def __init__(self, division, rows, ends, words):
        self.division = division
        self.rows = rows
        self.ends = ends
        self.words = words


def determined_form(machine):
    """The determined form of the machine as a Form."""
    division = Division(machine[0], conditions_of(machine))
    walker = Walker(machine, division)
    search = explored(walker.starts, division.firsts, walker.behind)
    return Form(division, search.rows, [walker.has_end(states) for states in search.found], search.words)


def least_form(machine):
    """The least form of the machine as a Form."""
    form = determined_form(machine)
    blocks = _blocks(form.rows, form.ends)
    # Blocks are numbered by their first states, so the words of these are the first ones that lead to the blocks.
    heads = [blocks.index(block) for block in range(max(blocks) + 1)]
    rows = [[blocks[target] for target in form.rows[head]] for head in heads]
    return Form(form.division, rows, [form.ends[head] for head in heads], [form.words[head] for head in heads])


def _blocks(rows, ends):
    """For each state the number of its block: the states of one block are not apart."""
    blocks = _numbered(ends)
    while True:
        finer = _numbered([
            (block, tuple([blocks[target] for target in row])) for block, row in zip(blocks, rows)
        ])
        if finer == blocks:
            return blocks
        blocks = finer


def _numbered(things):
    """For each thing the number of different things that stand before the first one that is equal to it."""
    known = {}
    return [known.setdefault(thing, len(known)) for thing in things]


def machine_of(form):
    """The machine, with letter sets as conditions, that the form tells."""
    ends = tuple([state for state, end in enumerate(form.ends) if end])
    steps = [step for state, row in enumerate(form.rows) for step in _steps(form.division, state, row)]
    return (form.division.kind, len(form.rows), (0,), ends, tuple(steps))


def _steps(division, state, row):
    return [
        (state, ("in", division.letters_in([other == target for other in row])), target) for target in sorted(set(row))
    ]

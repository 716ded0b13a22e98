"""Determined machines over classes of letters, and the least ones among them."""

from guardwords.walking import Walker, explored, walker_of


class Form:
    """A determined machine whose states are numbered in the order of the first words that lead to them.

    rows[state][number] is the state to which the letters of a class of the division lead; ends tells of each state
    whether it is an end; words has the first words.
    """

    def __init__(self, division, rows, ends, words):
        self.division = division
        self.rows = rows
        self.ends = ends
        self.words = words


def form_from(division, start, follow, ended):
    """The form whose states are what is found from the start: follow(thing, number) tells to what letters lead."""
    search = explored(start, division.firsts, follow)
    return Form(division, search.rows, [ended(thing) for thing in search.found], search.words)


def determined_form(machine):
    """The determined form of the machine as a Form."""
    walker = walker_of(machine)
    return form_from(walker.division, walker.starts, walker.behind, walker.has_end)


def least_form(machine):
    """The least form of the machine as a Form."""
    return reduced(determined_form(machine))


def reduced(form):
    """The form in which states that are not apart are one."""
    blocks = _blocks(form.rows, form.ends)
    # Blocks are numbered by their first states, so the words of these are the first ones that lead to the blocks.
    heads = [blocks.index(block) for block in range(max(blocks) + 1)]
    rows = [[blocks[target] for target in form.rows[head]] for head in heads]
    return Form(form.division, rows, [form.ends[head] for head in heads], [form.words[head] for head in heads])


def _blocks(rows, ends):
    """For each state the number of its block: the states of one block are not apart."""
    blocks = _numbered(ends)
    while True:
        finer = _numbered([
            (block, tuple([blocks[target] for target in row])) for block, row in zip(blocks, rows)
        ])
        if finer == blocks:
            return blocks
        blocks = finer


def _numbered(things):
    """For each thing the number of different things that stand before the first one that is equal to it."""
    known = {}
    return [known.setdefault(thing, len(known)) for thing in things]


def machine_of(form):
    """The machine, with letter sets as conditions, that the form tells."""
    ends = tuple([state for state, end in enumerate(form.ends) if end])
    steps = [step for state, row in enumerate(form.rows) for step in _steps(form.division, state, row)]
    return (form.division.kind, len(form.rows), (0,), ends, tuple(steps))


def _steps(division, state, row):
    return [
        (state, ("in", division.letters_in([other == target for other in row])), target) for target in sorted(set(row))
    ]


def walker_over_form(form):
    """The form as a machine gone through by classes of letters."""
    ends = tuple([state for state, end in enumerate(form.ends) if end])
    moves = [[(row[number],) for row in form.rows] for number in range(len(form.division.firsts))]
    return Walker(form.division, (0,), ends, moves)

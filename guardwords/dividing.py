"""The classes into which conditions divide the letters of a kind.

The letters of a kind, endlessly many or not, are cut into finitely many cells: a name, an integer that stands for all
integers that differ from it by a multiple of the period, a class of first parts beside a class of second parts, and so
on. All letters of a cell meet the same ones of the conditions. So a condition is a list of truths, one for each cell,
and what is asked about all letters is answered by going over the cells. Cells and classes stand in the order of their
first letters.
"""

from guardwords.conditions import INTEGER_FORMS, meets_number
from guardwords.integers import has_integer, integer_set, near
from guardwords.letters import integer_of_rank, integer_rank, steps_from
from guardwords.membership import sets_along
from guardwords.spans import span_of


class Division:
    """Conditions that fit a kind, and the classes into which they divide its letters.

    parts has the division of each kind to which a step leads, by the conditions on this part. places has a name for
    each cell, and numbers the number of its class. firsts has the first letter of each class. sets keeps the
    letter sets that were asked for.
    """

    def __init__(self, kind, conditions):
        # Conditions and letter sets may be nested too deep for the key of a dict: their text is the key.
        asked = {repr(condition): condition for condition in conditions}
        told = list(asked.values())
        self.kind = kind
        self.parts = {step: Division(below, _asked_below(told, step)) for step, below in steps_from(kind)}
        self.span = span_of(told) if kind[0] == "integers" else (0, 1)
        self.places = _places(self)
        columns = [_column(self, condition) for condition in told]
        self.numbers = _class_numbers(columns, len(self.places))
        heads = _heads(self.numbers)
        self.firsts = [_first_letter_at(self, self.places[at]) for at in heads]
        self.truths = {key: [column[at] for at in heads] for key, column in zip(asked, columns)}
        self.sets = {}

    def met(self, condition):
        """For each class whether its letters meet the condition, one of those that divide."""
        return self.truths[repr(condition)]

    def letters_in(self, chosen):
        """The letter set of the letters of some classes; chosen tells of each class whether it is one of them."""
        key = tuple(chosen)
        if key not in self.sets:
            self.sets[key] = _letter_set(self, [chosen[number] for number in self.numbers])
        return self.sets[key]

    def class_of(self, letter):
        """The number of the class of the letter, one of the kind."""
        return self.numbers[_cell_of(self, letter)]


def _asked_below(conditions, step):
    return [inner for condition in conditions for inner in _asked_by(condition, step)]


def _asked_by(condition, step):
    """The conditions in a condition that are on the part to which the step leads."""
    head = condition[0]
    if head in ("not", "and", "or"):
        return _asked_below(condition[1:], step)
    if head == "in":
        return [("in", part) for part in sets_along(condition[1], step)]
    if head == "case":
        return [condition[2]] if condition[1] == step else []
    return [condition[1]] if head == step else []


def _places(division):
    head = division.kind[0]
    parts = division.parts
    if head == "names":
        return list(division.kind[1])
    if head == "integers":
        bound, period = division.span
        return [integer_of_rank(at) for at in range(integer_rank(-(bound + period)) + 1)]
    if head == "pair":
        many = len(parts["second"].firsts)
        return [(i, j) for i in range(len(parts["first"].firsts)) for j in range(many)]
    if head == "either":
        return [(case, at) for case in parts for at in range(len(parts[case].firsts))]
    return [None] + list(range(len(parts["some"].firsts)))


def _first_letter_at(division, place):
    head = division.kind[0]
    parts = division.parts
    if head == "pair":
        return ("pair", parts["first"].firsts[place[0]], parts["second"].firsts[place[1]])
    if head == "either":
        return ("case", place[0], parts[place[0]].firsts[place[1]])
    if head == "maybe":
        return ("none",) if place is None else ("some", parts["some"].firsts[place])
    return place


def _cell_of(division, letter):
    """The number of the cell of the letter."""
    head = division.kind[0]
    parts = division.parts
    if head == "names":
        return division.kind[1].index(letter)
    if head == "integers":
        bound, period = division.span
        return integer_rank(near(letter, bound, period))
    if head == "pair":
        return parts["first"].class_of(letter[1]) * len(parts["second"].firsts) + parts["second"].class_of(letter[2])
    if head == "either":
        before = sum([len(parts[case].firsts) for case in range(letter[1])])
        return before + parts[letter[1]].class_of(letter[2])
    return 0 if letter == ("none",) else 1 + parts["some"].class_of(letter[1])


def _column(division, condition):
    """For each cell whether its letters meet the condition."""
    head = condition[0]
    if head in ("true", "false"):
        return [head == "true"] * len(division.places)
    if head == "not":
        return [not truth for truth in _column(division, condition[1])]
    if head in ("and", "or"):
        rows = list(zip(_column(division, condition[1]), _column(division, condition[2])))
        return [one and other for one, other in rows] if head == "and" else [one or other for one, other in rows]
    if head == "in":
        return _set_column(division, condition[1])
    if head == "is":
        return [place == condition[1] for place in division.places]
    if head in INTEGER_FORMS:
        return [meets_number(condition, place) for place in division.places]
    return _part_column(division, condition)


def _part_column(division, condition):
    head = condition[0]
    if head == "none":
        return [place is None for place in division.places]
    step = condition[1] if head == "case" else head
    met = division.parts[step].met(condition[-1])
    if head == "first":
        return [met[i] for i, j in division.places]
    if head == "second":
        return [met[j] for i, j in division.places]
    if head == "case":
        return [case == step and met[at] for case, at in division.places]
    return [place is not None and met[place] for place in division.places]


def _set_column(division, letters):
    head = letters[0]
    if head == "names":
        return [place in letters[1] for place in division.places]
    if head == "integers":
        return [has_integer(letters, place) for place in division.places]
    if head == "pairs":
        return _rows_column(division, letters[1])
    if head == "either":
        mets = [division.parts[case].met(("in", part)) for case, part in enumerate(letters[1])]
        return [mets[case][at] for case, at in division.places]
    return [letters[1]] + division.parts["some"].met(("in", letters[2]))


def _rows_column(division, rows):
    # The sets of first parts of the rows have no letter in common, so each class of first parts is in one row at most.
    row_of = {}
    for firsts, row in rows:
        met = division.parts["second"].met(("in", row))
        for at, truth in enumerate(division.parts["first"].met(("in", firsts))):
            if truth:
                row_of[at] = met
    return [i in row_of and row_of[i][j] for i, j in division.places]


def _class_numbers(columns, many):
    """For each cell the number of its class: cells that meet the same conditions are in one class."""
    if not columns:
        return [0] * many
    known = {}
    return [known.setdefault(truths, len(known)) for truths in zip(*columns)]


def _heads(numbers):
    """For each class the first one of its cells."""
    heads = []
    for at, number in enumerate(numbers):
        if number == len(heads):
            heads.append(at)
    return heads


def _letter_set(division, truths):
    """The letter set of the letters of some cells."""
    head = division.kind[0]
    if head == "names":
        return ("names", tuple([place for place, truth in zip(division.places, truths) if truth]))
    if head == "integers":
        bound, period = division.span
        return integer_set(dict(zip(division.places, truths)), bound, period)
    if head == "pair":
        return ("pairs", _rows(division, truths))
    if head == "either":
        return ("either", _case_sets(division, truths))
    return ("maybe", truths[0], division.parts["some"].letters_in(truths[1:]))


def _case_sets(division, truths):
    sets = []
    start = 0
    for part in division.parts.values():
        stop = start + len(part.firsts)
        sets.append(part.letters_in(truths[start:stop]))
        start = stop
    return tuple(sets)


def _rows(division, truths):
    first = division.parts["first"]
    second = division.parts["second"]
    many = len(second.firsts)
    rows = [tuple(truths[at * many:(at + 1) * many]) for at in range(len(first.firsts))]
    different = [row for row in {told: True for told in rows} if any(row)]
    return tuple([(first.letters_in([row == told for row in rows]), second.letters_in(told)) for told in different])

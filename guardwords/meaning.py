"""The words that expressions mean, as least forms over the classes of the conditions in the expressions."""

from guardwords.books import Book
from guardwords.dividing import Division
from guardwords.forming import Form, form_from, reduced
from guardwords.phrases import conditions_in, empty_by_parts
from guardwords.walking import first_word_to

SHORT = ("void", "empty", "letter")


class Meanings:
    """Some expressions over a kind, and the least forms of what they mean, all over the same classes of letters.

    numbers has the numbers of the expressions in the book.
    """

    def __init__(self, kind, expressions):
        self.book = Book()
        self.numbers = [self.book.enter(expression) for expression in expressions]
        self.division = Division(kind, [told for expression in expressions for told in conditions_in(expression)])
        self.forms = {}

    def form(self, number):
        """The least form of the words that the expression of this number means."""
        for at in self.book.within(number):
            if at not in self.forms:
                self.forms[at] = self._made(at)
        return self.forms[number]

    def _made(self, number):
        expression = self.book.told[number]
        head = expression[0]
        forms = [self.forms[part] for part in self.book.parts[number]]
        if head in ("void", "empty", "letter"):
            return _short(self.division, expression)
        if head == "not":
            return Form(self.division, forms[0].rows, [not end for end in forms[0].ends], forms[0].words)
        if head == "then":
            return _followed(self.division, forms[0], forms[1])
        if head == "star":
            return _repeated(self.division, forms[0])
        return _beside(self.division, head, forms[0], forms[1])


def _short(division, expression):
    """The form of an expression without parts; what is left is 0 for nothing, 1 for the end, 2 for one letter more."""
    head = expression[0]
    met = division.met(expression[1]) if head == "letter" else []
    return reduced(form_from(
        division,
        SHORT.index(head),
        lambda left, number: 1 if left == 2 and met[number] else 0,
        lambda left: left == 1,
    ))


def _beside(division, head, one, other):
    """The form for "or" and "and"."""
    return reduced(form_from(
        division,
        (0, 0),
        lambda pair, number: (one.rows[pair[0]][number], other.rows[pair[1]][number]),
        lambda pair: empty_by_parts(head, [one.ends[pair[0]], other.ends[pair[1]]]),
    ))


def _followed(division, one, other):
    """The form for "then": a state of the one, and the states of the other one behind all places where it can begin."""
    dead = _dead_states(other)

    def begun(state, behind):
        """The thing with this state of the one; at its ends the other one begins."""
        return (state, _alive(behind + [0] if one.ends[state] else behind, dead))

    return reduced(form_from(
        division,
        begun(0, []),
        lambda thing, number: begun(one.rows[thing[0]][number], [other.rows[state][number] for state in thing[1]]),
        lambda thing: any([other.ends[state] for state in thing[1]]),
    ))


def _repeated(division, one):
    """The form for "star": whether nothing was read, and the states behind all places where a word can begin."""
    dead = _dead_states(one)

    def begun(behind):
        """The thing with these states, with the start where a word ends."""
        return (False, _alive(behind + [0] if any([one.ends[state] for state in behind]) else behind, dead))

    return reduced(form_from(
        division,
        (True, _alive([0], dead)),
        lambda thing, number: begun([one.rows[state][number] for state in thing[1]]),
        lambda thing: thing[0] or any([one.ends[state] for state in thing[1]]),
    ))


def _dead_states(form):
    """The states of a least form from which no word is taken."""
    return [
        state for state, row in enumerate(form.rows)
        if not form.ends[state] and all([target == state for target in row])
    ]


def _alive(states, dead):
    """The states, each once and ascending, without the dead ones."""
    return tuple(sorted({state for state in states if state not in dead}))


def first_difference(one, other):
    """The first word that exactly one of two forms over the same classes takes, or None if there is none."""
    return first_word_to(
        (0, 0),
        one.division.firsts,
        lambda pair, number: (one.rows[pair[0]][number], other.rows[pair[1]][number]),
        lambda pair: one.ends[pair[0]] != other.ends[pair[1]],
    )

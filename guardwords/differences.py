"""First words for which two translations have unlike results, or one translation has two."""

from guardwords.comparing import compare
from guardwords.doubles import EVEN, Double
from guardwords.errors import NotSingle
from guardwords.outputs import first_of_words
from guardwords.searching import first_word_along
from guardwords.translations import domain


class FirstTwo:
    """Remembers for each pair of states the first two delays there.

    A third one is of no use: whatever follows, it comes to the same on both sides for at most one of the first two, and
    words that lead to these are before those that lead to the third one. None stands for what differs already.
    """

    def __init__(self):
        self.delays_at = {}

    def is_new(self, thing):
        """Whether the pair of a pair of states and of a delay is one of the first two there."""
        pair, delay = thing
        known = self.delays_at.setdefault(pair, [])
        if delay in known or None in known or len(known) == 2:
            return False
        known.append(delay)
        return True


def disagreement(first, second):
    """The first word that has a result by the first translation and another one by the second one, or None."""
    double = Double(first, second)
    dead = double.dead_pairs()
    known = FirstTwo()
    return first_word_along(
        double.kind,
        [(pair, EVEN) for pair in double.starts if pair not in dead],
        lambda thing: _ways_from(double, thing, dead),
        lambda thing: _is_unlike(double, thing),
        known.is_new,
    )


def _is_unlike(double, thing):
    """Whether some end words of the two states are written so that the two results differ."""
    pair, delay = thing
    if delay is None:
        return double.has_ends(pair)
    return not double.is_even_at(pair, delay)


def _ways_from(double, thing, dead):
    """The letters by which double steps lead on, each with what it leads to."""
    pair, delay = thing
    ways = []
    for i, j, letter in double.steps_from(pair):
        target = double.target(i, j)
        if target not in dead:
            ways.extend([(told, (target, behind)) for told, behind in _first_two(double, delay, i, j, letter)])
    return ways


def _first_two(double, delay, i, j, letter):
    """The first letter of a double step, and the first one behind which there is another delay; with these delays."""
    if delay is None:
        return [(letter, None)]
    told = double.delay_by(delay, i, j, letter)
    if told is None:
        return [(letter, None)]
    other = _first_unlike(double, delay, i, j, told)
    return [(letter, told)] + [(found, double.delay_by(delay, i, j, found)) for found in other]


def _first_unlike(double, delay, i, j, told):
    """The first letter of a double step behind which the delay is not the one that is told, in a list; or none."""
    one, other = double.terms(delay, i, j)
    left = tuple([("always", letter) for letter in told[1]])
    if told[0] == 0:
        other = other + left
    else:
        one = one + left
    letters = [double.parting(i, j, term, beside) for term, beside in zip(one, other)]
    words = [(letter,) for letter in letters if letter is not None]
    first = first_of_words(double.kind, words)
    return [] if first is None else [first[0]]


def second_result(translation):
    """The first word that has two results, or None if there is none."""
    return disagreement(translation, translation)


def same(first, second):
    """The first word for which the results of two single translations are not the same, or None if there is none."""
    unlike = disagreement(first, second)
    for number, translation in enumerate((first, second)):
        if second_result(translation) is not None:
            raise NotSingle(number)
    alone = compare(domain(first), domain(second))
    return first_of_words(first[0], [word for word in (unlike, alone) if word is not None])

"""Whether two translations agree, and tables of delays that show it."""

from guardwords.doubles import EVEN, Double
from guardwords.searching import Once, first_word_along


def double_steps(first, second, p, q):
    """For each double step from the pair the numbers of the two steps, and the first letter that meets both."""
    return tuple(Double(first, second).steps_from((p, q)))


def ends_together(first, second, p, q):
    """The first word that leads from the pair to ends, or None if the pair is dead."""
    double = Double(first, second)
    known = Once()
    return first_word_along(
        double.kind,
        [(p, q)],
        lambda pair: [(letter, double.target(i, j)) for i, j, letter in double.steps_from(pair)],
        double.has_ends,
        known.is_new,
    )


def delays(first, second):
    """The table of delays of two translations that agree, otherwise None."""
    double = Double(first, second)
    dead = double.dead_pairs()
    found = {pair: EVEN for pair in double.starts if pair not in dead}
    waiting = list(found)
    at = 0
    while at < len(waiting):
        pair = waiting[at]
        before = found[pair]
        if not double.is_even_at(pair, before):
            return None
        for target, delay in _delays_behind(double, pair, before, dead):
            if delay is None or found.get(target, delay) != delay:
                return None
            if target not in found:
                found[target] = delay
                waiting.append(target)
        at += 1
    return (tuple([pair + (found[pair],) for pair in sorted(found)]), tuple(dead))


def _delays_behind(double, pair, delay, dead):
    """For each double step to a pair that is not dead this pair, and the delay there; None if there is not just one."""
    told = [(i, j, double.target(i, j)) for i, j, letter in double.steps_from(pair)]
    return [(target, double.next_delay(delay, i, j)) for i, j, target in told if target not in dead]


def check_delays(first, second, table):
    """Whether the table of delays closes."""
    double = Double(first, second)
    triples, dead = table
    found = {(p, q): delay for p, q, delay in triples}
    if not all([pair in dead or found.get(pair) == EVEN for pair in double.starts]):
        return False
    return all([_is_dead(double, pair, dead) for pair in dead]) and all([
        _goes_on(double, pair, found, dead) for pair in found
    ])


def _is_dead(double, pair, dead):
    if double.has_ends(pair):
        return False
    return all([double.target(i, j) in dead for i, j, letter in double.steps_from(pair)])


def _goes_on(double, pair, found, dead):
    """Whether the pair and its delay keep to what a table that closes asks of them."""
    delay = found[pair]
    if not double.is_even_at(pair, delay):
        return False
    return all([
        behind is not None and found.get(target) == behind
        for target, behind in _delays_behind(double, pair, delay, dead)
    ])

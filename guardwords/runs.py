"""Runs of machines on words, and tables that show that no word has two runs."""

from guardwords.letters import check_word
from guardwords.reaching import first_word_from, reached, targets_of
from guardwords.walking import Walker, pairs_by, walker_of


def ways(machine, word):
    """The number of runs of the machine on the word."""
    check_word(machine[0], word)
    counts = [1 if state in machine[2] else 0 for state in range(machine[1])]
    for letter in word:
        longer = [0] * machine[1]
        for state, target in pairs_by(machine, letter):
            longer[target] += counts[state]
        counts = longer
    return sum([counts[state] for state in machine[3]])


def first_run(machine, word):
    """The first run of the machine on the word, or None if there is none."""
    check_word(machine[0], word)
    rounds = [pairs_by(machine, letter) for letter in word]
    allowed = _states_to_end(machine, rounds)
    there = [state for state in machine[2] if state in allowed[0]]
    if not there:
        return None
    run = there[:1]
    for pairs, states in zip(rounds, allowed[1:]):
        run.append(min([target for state, target in pairs if state == run[-1] and target in states]))
    return tuple(run)


def _states_to_end(machine, rounds):
    """For each place in a word the states there from which what is left of the word is taken."""
    allowed = [list(machine[3])]
    for pairs in reversed(rounds):
        behind = allowed[-1]
        allowed.append(sorted({state for state, target in pairs if target in behind}))
    return allowed[::-1]


def two_runs(machine):
    """The first word with at least two runs, or None if there is none."""
    walker = _beside_itself(walker_of(machine))
    return first_word_from(walker, walker.starts)


def _beside_itself(walker):
    """The machine that takes the words with two runs.

    Its states are the states of the machine, while the two runs are the same, and behind them the pairs of states for
    runs that already differ.
    """
    many = len(walker.moves[0])
    pairs = [(p, q) for p in range(many) for q in range(p, many)]
    numbers = {pair: many + at for at, pair in enumerate(pairs)}
    moves = []
    for row in walker.moves:
        alone = [row[p] + _numbers_of(numbers, _split(row[p])) for p in range(many)]
        moves.append(alone + [_numbers_of(numbers, _both(row, p, q)) for p, q in pairs])
    starts = walker.starts + _numbers_of(numbers, _split(walker.starts))
    ends = [numbers[(p, q)] for p, q in pairs if p in walker.ends and q in walker.ends]
    return Walker(walker.division, starts, tuple(ends), moves)


def _numbers_of(numbers, pairs):
    return tuple([numbers[pair] for pair in pairs])


def _split(states):
    """The pairs of each two different ones of the states, which ascend."""
    return [(p, q) for p in states for q in states if p < q]


def _both(row, p, q):
    """The pairs to which the letters of a class lead from p and from q, the lesser state first, ascending."""
    return sorted({(min(one, other), max(one, other)) for one in row[p] for other in row[q]})


def split_table(machine):
    """The pairs that are in each complete split table, ascending."""
    walker = walker_of(machine)
    pairs = _first_pairs(walker)
    known = {pair: True for pair in pairs}
    at = 0
    while at < len(pairs):
        p, q = pairs[at]
        for pair in _pairs_behind(walker, p, q):
            if pair not in known:
                known[pair] = True
                pairs.append(pair)
        at += 1
    return tuple(sorted(pairs))


def _first_pairs(walker):
    """The pairs that each complete split table has whatever other pairs it has."""
    states = reached(targets_of(walker), walker.starts)
    behind = [pair for row in walker.moves for state in states for pair in _split(row[state])]
    return sorted({pair for pair in _split(walker.starts) + behind})


def _pairs_behind(walker, p, q):
    """The pairs to which the same letter leads from p and from q."""
    return sorted({told for row in walker.moves for told in _both(row, p, q)})


def split_closes(machine, pairs):
    """Whether the pairs close as a split table for the machine."""
    walker = walker_of(machine)
    if any([p in walker.ends and q in walker.ends for p, q in pairs]):
        return False
    known = {pair: True for pair in pairs}
    asked = _first_pairs(walker) + [told for p, q in known for told in _pairs_behind(walker, p, q)]
    return all([pair in known for pair in asked])

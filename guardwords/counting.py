"""The words that a machine takes: their numbers, their lengths, and what is taken one behind another."""

from guardwords.integers import integer_set
from guardwords.ordering import Order
from guardwords.reaching import reached_later, targets_of, useful_targets
from guardwords.walking import walker_of


def count(machine, length):
    """How many words of this length the machine takes, or None for endlessly many."""
    return Order(walker_of(machine)).many_words(machine[2], length)


def is_endless(machine):
    """Whether the machine takes endlessly many words."""
    walker = walker_of(machine)
    targets = useful_targets(walker)
    if any([state in later for state, later in enumerate(reached_later(targets))]):
        return True
    endless = [walker.moves[number] for number, many in enumerate(Order(walker).sizes) if many is None]
    return any([target in row for moves in endless for state, row in enumerate(targets) for target in moves[state]])


def lengths(machine):
    """The letter set of the integers that are lengths of words that the machine takes."""
    walker = walker_of(machine)
    targets = targets_of(walker)
    sets = {}
    states = walker.starts
    while states not in sets:
        sets[states] = len(sets)
        states = tuple(sorted({target for state in states for target in targets[state]}))
    # The sets behind words of each length come back from here on.
    period = len(sets) - sets[states]
    bound = sets[states]
    truths = [walker.has_end(told) for told in sets]
    met = {number: False for number in range(-(bound + period), 0)}
    for number in range(bound + period + 1):
        met[number] = truths[number if number < len(truths) else number - period]
    return integer_set(met, bound, period)


def first_of_length(machine, length):
    """The first word of this length that the machine takes, or None if there is none."""
    return Order(walker_of(machine)).first_of(machine[2], length)


def word_at(machine, k):
    """Word number k of the machine, or None if there is none."""
    order = Order(walker_of(machine))
    word = order.first_word()
    for _ in range(k):
        if word is not None:
            word = order.next_of(word)
    return word


def words(machine, *, many=10):
    """Yield the words number 0 to many - 1 of the machine, fewer if it does not take so many."""
    order = Order(walker_of(machine))
    word = None
    for k in range(many):
        word = order.first_word() if k == 0 else order.next_of(word)
        if word is None:
            return
        yield word


def next_word(machine, word):
    """The first word behind this one that the machine takes, or None if there is none."""
    return Order(walker_of(machine)).next_of(word)


def words_before(machine, word):
    """How many words that the machine takes are before this one, or None for endlessly many."""
    return Order(walker_of(machine)).many_before(word)

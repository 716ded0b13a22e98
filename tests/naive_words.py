"""Runs, rests and actions worked out letter by letter, by the words of the document; nothing is taken from the package."""

import itertools

from tests import naive
from tests.support import met


def words_up_to(letters, length):
    """The words over the letters with at most so many letters, in their order if the letters stand in theirs."""
    for size in range(length + 1):
        yield from itertools.product(letters, repeat=size)


# --- runs --------------------------------------------------------------------------------------------------------


def runs_on(machine, word):
    """All runs on the word, by their order."""
    runs = [(state,) for state in machine[2]]
    for letter in word:
        pairs = {(p, q) for p, condition, q in machine[4] if met(condition, letter)}
        runs = [run + (q,) for run in runs for p, q in pairs if p == run[-1]]
    return sorted(run for run in runs if run[-1] in machine[3])


def two_runs(machine):
    """The first word with two runs: for each state it is counted whether none, one or more ways lead to it."""
    def follow(counts, letter):
        pairs = {(p, q) for p, condition, q in machine[4] if met(condition, letter)}
        return tuple(min(2, sum(counts[p] for p, target in pairs if target == q)) for q in range(machine[1]))

    start = tuple(1 if state in machine[2] else 0 for state in range(machine[1]))
    found = naive.explore(start, naive.letters_of_all(machine), follow)
    return next((word for counts, word in found.items() if sum(counts[q] for q in machine[3]) > 1), None)


def asked_pairs(machine, pairs):
    """The pairs that a complete split table with these pairs has."""
    letters = naive.letters_of_all(machine)
    asked = set(itertools.combinations(machine[2], 2))
    for state in naive.reached(machine):
        for letter in letters:
            asked |= set(itertools.combinations(naive.behind(machine, (state,), letter), 2))
    for p, q in pairs:
        for letter in letters:
            ways = itertools.product(naive.behind(machine, (p,), letter), naive.behind(machine, (q,), letter))
            asked |= {tuple(sorted(way)) for way in ways}
    return asked


def split_table(machine):
    pairs = set()
    while not asked_pairs(machine, pairs) <= pairs:
        pairs |= asked_pairs(machine, pairs)
    return tuple(sorted(pairs))


def split_closes(machine, pairs):
    return asked_pairs(machine, pairs) <= set(pairs) and not any(p in machine[3] and q in machine[3] for p, q in pairs)


# --- going on ----------------------------------------------------------------------------------------------------


def first_from(machine, states, wanted):
    """The first word behind which an end stands, or does not stand, as is wanted."""
    found = naive.explore(states, naive.letters_of_all(machine), lambda told, a: naive.behind(machine, told, a))
    return next((word for told, word in found.items() if naive.ended(machine, told) is wanted), None)


def sets_behind_words(first, second):
    """The sets of states of the second machine that are behind words of the first one."""
    return {other for one, other in naive.pairs_of(first, second) if naive.ended(first, one)}


# --- actions -----------------------------------------------------------------------------------------------------


class Groups:
    """The states of the least form, each as a group of sets of states."""

    def __init__(self, machine):
        self.machine = machine
        self.letters = naive.letters_of_all(machine)
        self.groups = naive.groups_of(machine)
        self.numbers = {states: i for i, group in enumerate(self.groups) for states in group}

    def action(self, word):
        return tuple(self.numbers[naive.behind_word(self.machine, group[0], word)] for group in self.groups)

    def actions(self):
        start = tuple(range(len(self.groups)))
        by_letter = {letter: self.action((letter,)) for letter in self.letters}
        return naive.explore(start, self.letters, lambda told, a: tuple(by_letter[a][state] for state in told))

    def turns(self, action):
        """Whether some state is left and comes back, by going on as many times as there are states."""
        for state in range(len(action)):
            at, seen = action[state], []
            for _ in action:
                seen.append(at)
                at = action[at]
            if action[state] != state and state in seen:
                return True
        return False

    def merging(self, i, j):
        return self.first_to((i, j), lambda told: told[0] == told[1])

    def reset_word(self):
        return self.first_to(tuple(range(len(self.groups))), lambda told: len(set(told)) == 1)

    def first_to(self, states, wanted):
        by_letter = {letter: self.action((letter,)) for letter in self.letters}
        found = naive.explore(states, self.letters, lambda told, a: tuple(by_letter[a][state] for state in told))
        return next((word for told, word in found.items() if wanted(told)), None)

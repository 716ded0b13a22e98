"""Machines gone through by classes of letters, and searches in the order of words."""

from guardwords.conditions import is_met
from guardwords.dividing import Division


def conditions_of(machine):
    """The conditions of the steps of the machine."""
    return [condition for state, condition, target in machine[4]]


def pairs_by(machine, letter):
    """The pairs of states, ascending, from the first of which the letter, one of the kind, leads to the second one."""
    return sorted({(state, target) for state, condition, target in machine[4] if is_met(condition, letter)})


def behind_letter(machine, states, letter):
    """The set behind a set of states of the machine by the letter, which is one of its kind."""
    return tuple(sorted({
        target for state, condition, target in machine[4] if state in states and is_met(condition, letter)
    }))


class Walker:
    """A machine over the classes of a division.

    moves[number][state] has, ascending, the states to which the letters of class `number` lead from the state.
    """

    def __init__(self, division, starts, ends, moves):
        self.division = division
        self.starts = starts
        self.ends = ends
        self.moves = moves

    def behind(self, states, number):
        """The set behind the states by a letter of the class."""
        row = self.moves[number]
        return tuple(sorted({target for state in states for target in row[state]}))

    def has_end(self, states):
        """Whether one of the states is an end."""
        return any(state in self.ends for state in states)


def walker_over(machine, division):
    """The machine over a division by conditions among which are those of its steps."""
    targets = [[{} for _ in range(machine[1])] for _ in division.firsts]
    for state, condition, target in machine[4]:
        for number, truth in enumerate(division.met(condition)):
            if truth:
                targets[number][state][target] = True
    moves = [[tuple(sorted(told)) for told in row] for row in targets]
    return Walker(division, machine[2], machine[3], moves)


def walker_of(machine):
    """The machine over the division by the conditions of its own steps."""
    return walker_over(machine, Division(machine[0], conditions_of(machine)))


class Search:
    """What is found from a start, letter by letter.

    words has the first word that leads to each thing found, and rows, where all of it was gone through, for each thing
    and each class of letters the number of the thing to which it leads.
    """

    def __init__(self, start):
        self.found = [start]
        self.words = [()]
        self.rows = []
        self.number_of = {start: 0}

    def number_for(self, thing, word):
        """The number of the thing; if it is new, it gets the next one, and the word is its word."""
        if thing not in self.number_of:
            self.number_of[thing] = len(self.found)
            self.found.append(thing)
            self.words.append(word)
        return self.number_of[thing]


def explored(start, firsts, follow):
    """All that is found from the start: follow(thing, number) is to what letters of a class lead from a thing.

    Things are gone through in the order in which they are found, and classes in the order of their first letters. So
    things are found in the order of the first words that lead to them, and firsts are the letters of these words.
    """
    search = Search(start)
    while len(search.rows) < len(search.found):
        at = len(search.rows)
        thing = search.found[at]
        word = search.words[at]
        search.rows.append([
            search.number_for(follow(thing, number), word + (letter,)) for number, letter in enumerate(firsts)
        ])
    return search


def first_word_to(start, firsts, follow, wanted):
    """The first word that leads from the start to something that is wanted, or None if there is none."""
    if wanted(start):
        return ()
    search = Search(start)
    at = 0
    while at < len(search.found):
        for number, letter in enumerate(firsts):
            thing = follow(search.found[at], number)
            word = search.words[at] + (letter,)
            many = len(search.found)
            if search.number_for(thing, word) == many and wanted(thing):
                return word
        at += 1
    return None

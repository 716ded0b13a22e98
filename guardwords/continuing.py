"""What can come behind a word, behind the words of a machine, and how words that are taken begin."""

from guardwords.coupling import walkers_of
from guardwords.forming import form_from, machine_of, reduced
from guardwords.machines import states_behind
from guardwords.reaching import first_word_from, reaching_end
from guardwords.walking import first_word_to, walker_of


def rest(machine, word):
    """A machine that takes the words that are taken behind the word."""
    kind, many, starts, ends, steps = machine
    return (kind, many, states_behind(machine, word), ends, steps)


def verdict(machine, word):
    """The first word that is taken behind the word, and the first one that is not; None for one that is not there."""
    states = states_behind(machine, word)
    walker = walker_of(machine)
    missed = first_word_to(states, walker.division.firsts, walker.behind, lambda behind: not walker.has_end(behind))
    return (first_word_from(walker, states), missed)


def some_rest(first, second):
    """A machine that takes what the second machine takes behind at least one word of the first one."""
    one, other = walkers_of(first, second)
    starts = _found_behind_words(one, other.starts, lambda state, number: other.moves[number][state])
    return (second[0], second[1], tuple(starts), second[3], second[4])


def each_rest(first, second):
    """A machine that takes what the second machine takes behind each word of the first one."""
    one, other = walkers_of(first, second)
    sets = _found_behind_words(one, (other.starts,), lambda states, number: (other.behind(states, number),))
    form = form_from(
        one.division,
        tuple(sets),
        lambda family, number: tuple(sorted({other.behind(states, number) for states in family})),
        lambda family: all([other.has_end(states) for states in family]),
    )
    return machine_of(reduced(form))


def _found_behind_words(walker, things, follow):
    """What is found behind the words of the machine, ascending.

    The things are in front of all words, and follow(thing, number) is to what the letters of a class lead from a thing.
    """
    found = [(state, thing) for state in walker.starts for thing in things]
    known = {pair: True for pair in found}
    at = 0
    while at < len(found):
        state, thing = found[at]
        for number, row in enumerate(walker.moves):
            for pair in [(target, behind) for target in row[state] for behind in follow(thing, number)]:
                if pair not in known:
                    known[pair] = True
                    found.append(pair)
        at += 1
    return sorted({thing for state, thing in found if state in walker.ends})


def beginnings(machine):
    """A machine that takes the words that some word can follow so that both together are taken."""
    kind, many, starts, ends, steps = machine
    return (kind, many, starts, reaching_end(walker_of(machine)), steps)

"""Machines gone through letter by letter, by the words of the document alone; nothing here is taken from the package."""

from tests.support import COLOURS, INTEGERS, Chance, in_one_form, letters_near, met, span


def reach_of(*machines):
    """The numbers N and L for all conditions of the machines."""
    return span([condition for machine in machines for _, condition, _ in machine[4]])


def letters_of_all(*machines):
    """Letters that stand for all letters [52], in their order."""
    return letters_near(machines[0][0], sum(reach_of(*machines)))


def behind(machine, states, letter):
    return tuple(sorted({q for p, condition, q in machine[4] if p in states and met(condition, letter)}))


def behind_word(machine, states, word):
    for letter in word:
        states = behind(machine, states, letter)
    return states


def ended(machine, states):
    return any(state in machine[3] for state in states)


def taken(machine, word):
    return ended(machine, behind_word(machine, machine[2], word))


def explore(start, letters, follow):
    """All that is found from the start, each with the first word that leads to it, in the order of these words."""
    found, waiting = {start: ()}, [start]
    for thing in waiting:
        for letter in letters:
            new = follow(thing, letter)
            if new not in found:
                found[new] = found[thing] + (letter,)
                waiting.append(new)
    return found


def pairs_of(first, second):
    """The pairs behind the same word, with the first words."""
    return explore((first[2], second[2]), letters_of_all(first, second),
                   lambda pair, a: (behind(first, pair[0], a), behind(second, pair[1], a)))


def sets_of(machine):
    """The sets that are behind some word, with the first words."""
    return explore(machine[2], letters_of_all(machine), lambda states, a: behind(machine, states, a))


def compare(first, second):
    for (one, other), word in pairs_of(first, second).items():
        if ended(first, one) != ended(second, other):
            return word
    return None


def within(first, second):
    for (one, other), word in pairs_of(first, second).items():
        if ended(first, one) and not ended(second, other):
            return word
    return None


def first_word(machine):
    return next((word for states, word in sets_of(machine).items() if ended(machine, states)), None)


def reached(machine):
    return tuple(sorted({state for states in sets_of(machine) for state in states}))


def machine_by(machine, groups, head):
    """The machine whose states are groups of sets; all sets of a group are led to one group by each letter."""
    numbers = {states: i for i, group in enumerate(groups) for states in group}
    bound, period = reach_of(machine)
    letters = letters_near(machine[0], bound + period)
    steps = []
    for i, group in enumerate(groups):
        for j in sorted({numbers[behind(machine, group[0], a)] for a in letters}):
            told = in_one_form(
                machine[0], lambda a, j=j, group=group: numbers[behind(machine, group[0], a)] == j, bound, period)
            steps.append((i, ("in", told), j))
    ends = tuple(i for i, group in enumerate(groups) if ended(machine, group[0]))
    return (machine[0], len(groups), head, ends, tuple(steps))


def determined(machine):
    return machine_by(machine, [[states] for states in sets_of(machine)], (0,))


def parting(machine, one, other):
    """The first word that is taken from exactly one of two sets of states, or None."""
    found = explore((one, other), letters_of_all(machine),
                    lambda pair, a: (behind(machine, pair[0], a), behind(machine, pair[1], a)))
    return next((word for (p, q), word in found.items() if ended(machine, p) != ended(machine, q)), None)


def groups_of(machine):
    """The sets behind words, those that are not apart in one group, in the order of the first words."""
    groups = []
    for states in sets_of(machine):
        for group in groups:
            if parting(machine, group[0], states) is None:
                group.append(states)
                break
        else:
            groups.append([states])
    return groups


def least(machine):
    return machine_by(machine, groups_of(machine), (0,))


def first_words(machine):
    words = sets_of(machine)
    return tuple(words[group[0]] for group in groups_of(machine))


def partings(machine):
    groups = groups_of(machine)
    return tuple(
        tuple(parting(machine, one[0], other[0]) for other in groups[i + 1:]) for i, one in enumerate(groups))


def undetermined(machine):
    if len(machine[2]) != 1:
        return ("starts",)
    for state in range(machine[1]):
        for letter in letters_of_all(machine):
            if len(behind(machine, (state,), letter)) != 1:
                return ("letter", state, letter)
    return None


def closes(first, second, pairs):
    return (
        (first[2], second[2]) in pairs
        and all(ended(first, p) == ended(second, q) for p, q in pairs)
        and all((behind(first, p, a), behind(second, q, a)) in pairs for p, q in pairs for a in letters_of_all(first, second))
    )


def linked(pairs, one, other):
    """Whether a set of the first and one of the second machine are linked, found by going along the pairs."""
    seen, waiting = {(0, one)}, [(0, one)]
    for side, states in waiting:
        for pair in pairs:
            new = (1 - side, pair[1 - side])
            if pair[side] == states and new not in seen:
                seen.add(new)
                waiting.append(new)
    return (1, other) in seen


def links(first, second):
    left = []
    for one, other in pairs_of(first, second):
        if not linked(left, one, other):
            left.append((one, other))
    return tuple(left)


def links_close(first, second, pairs):
    return (
        linked(pairs, first[2], second[2])
        and all(ended(first, p) == ended(second, q) for p, q in pairs)
        and all(linked(pairs, behind(first, p, a), behind(second, q, a)) for p, q in pairs for a in letters_of_all(first, second))
    )


def drawn(seeds, limit=60, most=2, mods=(1, 2), **told):
    """Chances with machines over kinds of which not too many letters stand for all."""
    for seed in seeds:
        chance = Chance(seed, most, mods)
        kind = chance.kind(2, 4) if seed % 3 == 0 else chance.choice((INTEGERS, COLOURS, ("maybe", INTEGERS)))
        if len(letters_near(kind, most + 2)) <= limit:
            yield chance, chance.machine(kind, **told)

"""Letter sets in their one form: what they have in them, and the kinds of which they are letter sets."""

from math import lcm

from guardwords.integers import has_integer, next_integer
from guardwords.letters import integer_of_rank, integer_rank, rank
from guardwords.spans import set_span


def contains(letters, letter):
    """Whether the letter is in the set; both are of one kind."""
    head = letters[0]
    if head == "names":
        return letter in letters[1]
    if head == "integers":
        return has_integer(letters, letter)
    if head == "pairs":
        return any(contains(firsts, letter[1]) and contains(row, letter[2]) for firsts, row in letters[1])
    if head == "either":
        return contains(letters[1][letter[1]], letter[2])
    return letters[1] if letter == ("none",) else contains(letters[2], letter[1])


def first_in(letters):
    """The first letter of the set, or None if it is empty."""
    head = letters[0]
    if head == "names":
        return letters[1][0] if letters[1] else None
    if head == "integers":
        return next_integer(letters, 0)
    if head == "pairs":
        # The rows stand in the order of the first letters of their sets of first parts.
        return ("pair", first_in(letters[1][0][0]), first_in(letters[1][0][1])) if letters[1] else None
    if head == "either":
        return first_case(letters[1], 0)
    return ("none",) if letters[1] else some_letter(first_in(letters[2]))


def first_case(sets, case):
    """The first letter of this case or a later one, with its part in the set of its case; None if there is none."""
    for number in range(case, len(sets)):
        part = first_in(sets[number])
        if part is not None:
            return ("case", number, part)
    return None


def some_letter(part):
    """The letter of a "maybe" with this part; None for None."""
    return None if part is None else ("some", part)


def first_shared(kind, one, other):
    """The first letter that is in both letter sets of the kind, or None if there is none."""
    head = kind[0]
    if head == "names":
        names = [name for name in one[1] if name in other[1]]
        return names[0] if names else None
    if head == "integers":
        return _first_shared_integer(one, other)
    if head == "pair":
        return _first_shared_pair(kind, one[1], other[1])
    if head == "either":
        for case, inner in enumerate(kind[1]):
            part = first_shared(inner, one[1][case], other[1][case])
            if part is not None:
                return ("case", case, part)
        return None
    return ("none",) if one[1] and other[1] else some_letter(first_shared(kind[1], one[2], other[2]))


def _first_shared_integer(one, other):
    bound, period = set_span(one)
    reach, length = set_span(other)
    furthest = max(bound, reach) + lcm(period, length)
    for at in range(integer_rank(-furthest) + 1):
        number = integer_of_rank(at)
        if has_integer(one, number) and has_integer(other, number):
            return number
    return None


def _first_shared_pair(kind, rows, others):
    pairs = []
    for firsts, row in rows:
        for beside, told in others:
            second = first_shared(kind[2], row, told)
            first = None if second is None else first_shared(kind[1], firsts, beside)
            if first is not None:
                pairs.append(("pair", first, second))
    # Each first part is in one row of each set, so no two of the pairs have the same one.
    return min(pairs, key=lambda pair: rank(kind[1], pair[1])) if pairs else None


def sets_along(letters, step):
    """The letter sets of which the set consists, along the step: one for each row of a set of pairs, otherwise one."""
    if letters[0] == "pairs":
        return [firsts if step == "first" else row for firsts, row in letters[1]]
    return [letters[1][step] if letters[0] == "either" else letters[2]]


def is_set_of(kind, letters):
    """Whether what is a letter set of some kind is one of this kind."""
    head = kind[0]
    if head == "names":
        return letters[0] == "names" and letters[1] == tuple([name for name in kind[1] if name in letters[1]])
    if head == "integers":
        return letters[0] == "integers"
    if head == "pair":
        return letters[0] == "pairs" and _are_rows_of(kind, letters[1])
    if head == "either":
        return letters[0] == "either" and _are_sets_of(kind[1], letters[1])
    return letters[0] == "maybe" and is_set_of(kind[1], letters[2])


def _are_rows_of(kind, rows):
    for firsts, row in rows:
        if not is_set_of(kind[1], firsts) or not is_set_of(kind[2], row):
            return False
    # The first letters are asked for last: their ranks are those of letters of this kind only.
    ranks = [rank(kind[1], first_in(firsts)) for firsts, row in rows]
    return all(before < behind for before, behind in zip(ranks, ranks[1:]))


def _are_sets_of(kinds, sets):
    return len(kinds) == len(sets) and all(is_set_of(kind, letters) for kind, letters in zip(kinds, sets))

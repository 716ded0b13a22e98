"""Letter sets: made from conditions, joined, counted and gone through in the order of their letters."""

from guardwords.composing import any_of
from guardwords.conditions import check_condition
from guardwords.dividing import Division
from guardwords.integers import integers_before, is_finite, next_integer
from guardwords.letters import check_letter, integer_rank, rank, steps_from
from guardwords.membership import contains, first_case, first_in, sets_along, some_letter


def letters_of(kind, condition):
    """The letter set of the letters that meet the condition."""
    check_condition(kind, condition)
    division = Division(kind, [condition])
    return division.letters_in(division.met(condition))


def holds(kind, letters, letter):
    """Whether the letter is in the set."""
    check_letter(kind, letter)
    return contains(letters, letter)


def common(kind, first, second):
    """The letter set of the letters that are in both sets."""
    return letters_of(kind, ("and", ("in", first), ("in", second)))


def united(kind, first, second):
    """The letter set of the letters that are in at least one of the sets."""
    return letters_of(kind, ("or", ("in", first), ("in", second)))


def remaining(kind, letters):
    """The letter set of the letters that are not in the set."""
    return letters_of(kind, ("not", ("in", letters)))


def condition_of(kind, letters):
    """A condition without "in" that exactly the letters of the set meet."""
    head = kind[0]
    if head == "names":
        return any_of([("is", name) for name in letters[1]])
    if head == "integers":
        return _integers_condition(letters)
    if head == "pair":
        return any_of([_row_condition(kind, firsts, row) for firsts, row in letters[1]])
    if head == "either":
        told = [condition_of(inner, part) for inner, part in zip(kind[1], letters[1])]
        return any_of([("case", case, condition) for case, condition in enumerate(told)])
    some = ("some", condition_of(kind[1], letters[2]))
    return ("or", ("none",), some) if letters[1] else some


def _row_condition(kind, firsts, row):
    return ("and", ("first", condition_of(kind[1], firsts)), ("second", condition_of(kind[2], row)))


def _integers_condition(letters):
    low, below = letters[1]
    high, above = letters[3]
    # Read upwards, the integers below go through their truths backwards.
    beneath = _tail(("<", low + 1), low - len(below) + 1, below[::-1])
    members = [("=", number) for number in letters[2]]
    return any_of(beneath + members + _tail((">", high - 1), high, above))


def _tail(limit, start, truths):
    """The conditions for the integers that meet the limit; the truths, read upwards from start, come back."""
    if all(truths):
        return [limit]
    many = len(truths)
    remainders = [("mod", many, (start + k) % many) for k, truth in enumerate(truths) if truth]
    return [("and", limit, any_of(remainders))] if remainders else []


def size(kind, letters):
    """How many letters are in the set, or None for endlessly many."""
    head = kind[0]
    if head == "names":
        return len(letters[1])
    if head == "integers":
        return len(letters[2]) if is_finite(letters) else None
    if head == "pair":
        return _sum([_product(size(kind[1], firsts), size(kind[2], row)) for firsts, row in letters[1]])
    if head == "either":
        return _sum([size(inner, part) for inner, part in zip(kind[1], letters[1])])
    return _sum([1 if letters[1] else 0, size(kind[1], letters[2])])


def _sum(sizes):
    return None if None in sizes else sum(sizes)


def _product(many, each):
    """How many letters there are in so many sets of this size, which is not 0; None stands for endlessly many."""
    if many == 0:
        return 0
    return None if many is None or each is None else many * each


def letter_at(kind, letters, k):
    """Letter number k of the set, or None if there is none."""
    letter = first_in(letters)
    for _ in range(k):
        if letter is not None:
            letter = next_letter(kind, letters, letter)
    return letter


def next_letter(kind, letters, letter):
    """The first letter of the set that is behind the letter, or None if there is none."""
    head = kind[0]
    if head == "names":
        behind = [name for name in letters[1] if rank(kind, name) > rank(kind, letter)]
        return behind[0] if behind else None
    if head == "integers":
        return next_integer(letters, integer_rank(letter) + 1)
    if head == "pair":
        return _next_pair(kind, letters[1], letter)
    if head == "either":
        case = letter[1]
        part = next_letter(kind[1][case], letters[1][case], letter[2])
        return ("case", case, part) if part is not None else first_case(letters[1], case + 1)
    if letter == ("none",):
        return some_letter(first_in(letters[2]))
    return some_letter(next_letter(kind[1], letters[2], letter[1]))


def _next_pair(kind, rows, letter):
    for firsts, row in rows:
        if contains(firsts, letter[1]):
            second = next_letter(kind[2], row, letter[2])
            if second is not None:
                return ("pair", letter[1], second)
    return _first_pair(kind, [(next_letter(kind[1], firsts, letter[1]), row) for firsts, row in rows])


def _first_pair(kind, starts):
    """The first of the pairs of a first part and a letter of its row; None for a first part stands for no pair."""
    there = [(first, row) for first, row in starts if first is not None]
    if not there:
        return None
    first, row = min(there, key=lambda start: rank(kind[1], start[0]))
    return ("pair", first, first_in(row))


def letters_before(kind, letters, letter):
    """How many letters of the set are before the letter, or None for endlessly many."""
    head = kind[0]
    if head == "names":
        return len([name for name in letters[1] if rank(kind, name) < rank(kind, letter)])
    if head == "integers":
        return integers_before(letters, letter)
    if head == "pair":
        return _sum([_pairs_before(kind, firsts, row, letter) for firsts, row in letters[1]])
    if head == "either":
        return _sum([_case_before(kind, letters, case, letter) for case in range(letter[1] + 1)])
    if letter == ("none",):
        return 0
    return _sum([1 if letters[1] else 0, letters_before(kind[1], letters[2], letter[1])])


def _pairs_before(kind, firsts, row, letter):
    before = _product(letters_before(kind[1], firsts, letter[1]), size(kind[2], row))
    beside = letters_before(kind[2], row, letter[2]) if contains(firsts, letter[1]) else 0
    return _sum([before, beside])


def _case_before(kind, letters, case, letter):
    inner = kind[1][case]
    if case < letter[1]:
        return size(inner, letters[1][case])
    return letters_before(inner, letters[1][case], letter[2])


def projected(kind, letters, path):
    """The letter set of what the path leads to in the letters of the set in which it is there."""
    for step in path:
        below = dict(steps_from(kind))[step]
        letters = letters_of(below, any_of([("in", part) for part in sets_along(letters, step)]))
        kind = below
    return letters

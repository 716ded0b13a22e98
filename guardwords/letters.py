"""Kinds, their letters and words, the order of these, and paths in them."""

from guardwords.errors import BadLetter


def is_letter(kind, value):
    """Whether the value is a letter of the kind."""
    head = kind[0]
    if head == "names":
        return value in kind[1]
    if head == "integers":
        return _is_number(value)
    if not isinstance(value, tuple):
        return False
    if head == "pair":
        return _is_form(value, "pair", 3) and is_letter(kind[1], value[1]) and is_letter(kind[2], value[2])
    if head == "either":
        return _is_form(value, "case", 3) and _is_case(kind[1], value[1]) and is_letter(kind[1][value[1]], value[2])
    return value == ("none",) or _is_form(value, "some", 2) and is_letter(kind[1], value[1])


def _is_number(value):
    # True and False are integers in Python, but never in a letter.
    return isinstance(value, int) and not isinstance(value, bool)


def _is_form(value, head, size):
    return len(value) == size and value[0] == head


def _is_case(kinds, value):
    return _is_number(value) and 0 <= value < len(kinds)


def check_letter(kind, letter):
    """Raise BadLetter if the letter is not one of the kind."""
    if not is_letter(kind, letter):
        raise BadLetter("a letter is not one of the kind")


def check_word(kind, word):
    """Raise BadLetter if a letter of the word is not one of the kind."""
    for letter in word:
        check_letter(kind, letter)


def integer_rank(number):
    """The number of the integers before this one in the order 0, 1, -1, 2, -2, and so on."""
    return 2 * number - 1 if number > 0 else -2 * number


def integer_of_rank(at):
    """The integer that has so many integers before it."""
    return (at + 1) // 2 if at % 2 == 1 else -(at // 2)


def rank(kind, letter):
    """What can be compared by < to order the letters of the kind."""
    head = kind[0]
    if head == "names":
        return kind[1].index(letter)
    if head == "integers":
        return integer_rank(letter)
    if head == "pair":
        return (rank(kind[1], letter[1]), rank(kind[2], letter[2]))
    if head == "either":
        return (letter[1], rank(kind[1][letter[1]], letter[2]))
    return () if letter == ("none",) else (rank(kind[1], letter[1]),)


def compared(kind, first, second):
    """-1, 0 or 1, as the first letter is before, is, or is behind the second one."""
    check_letter(kind, first)
    check_letter(kind, second)
    return _order(rank(kind, first), rank(kind, second))


def words_compared(kind, first, second):
    """-1, 0 or 1, as the first word is before, is, or is behind the second one."""
    check_word(kind, first)
    check_word(kind, second)
    return _order(word_rank(kind, first), word_rank(kind, second))


def word_rank(kind, word):
    """What can be compared by < to order words over the kind."""
    return (len(word), [rank(kind, letter) for letter in word])


def _order(first, second):
    if first == second:
        return 0
    return -1 if first < second else 1


def steps_from(kind):
    """The pairs of each step that a path can take from the kind, and the kind to which it leads."""
    if kind[0] == "pair":
        return [("first", kind[1]), ("second", kind[2])]
    if kind[0] == "either":
        return list(enumerate(kind[1]))
    if kind[0] == "maybe":
        return [("some", kind[1])]
    return []


def kind_at(kind, path):
    """The kind to which the path leads, or None if the path does not fit."""
    for step in path:
        below = dict(steps_from(kind))
        if step not in below:
            return None
        kind = below[step]
    return kind


def part_at(letter, path):
    """What the path leads to in the letter, or None if it is not there."""
    for step in path:
        parts = _parts_of(letter)
        if step not in parts:
            return None
        letter = parts[step]
    return letter


def _parts_of(letter):
    if not isinstance(letter, tuple) or letter == ("none",):
        return {}
    if letter[0] == "pair":
        return {"first": letter[1], "second": letter[2]}
    if letter[0] == "case":
        return {letter[1]: letter[2]}
    return {"some": letter[1]}

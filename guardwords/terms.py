"""Terms: which fit, where they are there and what they give, and conditions and terms put before and behind them."""

from guardwords.composing import FALSE, exactly
from guardwords.conditions import check_condition
from guardwords.errors import BadTerm
from guardwords.following import followed_in, paths_in
from guardwords.letters import is_letter, kind_at, part_at
from guardwords.membership import first_in
from guardwords.moving import moved_set
from guardwords.pushing import all_there, condition_before
from guardwords.sets import letters_of, projected

INTEGERS = ("integers",)


def check_term(kind, other, term):
    """Raise BadTerm if the term does not fit from the first kind to the other one."""
    if not _fits(kind, other, term):
        raise BadTerm("a term does not fit from the one kind to the other one")


def _fits(kind, other, term):
    head = term[0]
    if head == "always":
        return is_letter(other, term[1])
    if head == "read":
        return kind_at(kind, term[1]) == other
    if head in ("plus", "minus"):
        return kind_at(kind, term[1]) == INTEGERS and other == INTEGERS
    if head == "pair":
        return other[0] == "pair" and _fits(kind, other[1], term[1]) and _fits(kind, other[2], term[2])
    if head == "case":
        return other[0] == "either" and term[1] < len(other[1]) and _fits(kind, other[1][term[1]], term[2])
    return other[0] == "maybe" and _fits(kind, other[1], term[1])


def gives(term, letter):
    """The letter that the term gives for the letter, or None if it is not there."""
    head = term[0]
    if head == "always":
        return term[1]
    if head == "pair":
        parts = [gives(part, letter) for part in term[1:]]
        return None if None in parts else ("pair", parts[0], parts[1])
    if head in ("case", "some"):
        part = gives(term[-1], letter)
        return None if part is None else term[:-1] + (part,)
    part = part_at(letter, term[1])
    if part is None or head == "read":
        return part
    return part + term[2] if head == "plus" else term[2] - part


def is_plain(term):
    """Whether at most one path stands in the term."""
    return len(paths_in(term)) <= 1


def there(kind, term):
    """A condition that exactly the letters of the kind meet for which the term is there."""
    return all_there([term])


def before(kind, other, term, condition):
    """A condition that is met if the term is there, and gives a letter that meets this condition."""
    check_condition(other, condition)
    check_term(kind, other, term)
    return condition_before(term, condition)


def given_letters(kind, other, term, condition):
    """The letter set of what a plain term gives for the letters that meet the condition."""
    check_condition(kind, condition)
    check_term(kind, other, term)
    return given_set(kind, other, term, letters_of(kind, condition))


def given_set(kind, other, term, letters):
    """The letter set of what a plain term gives for the letters of a letter set."""
    # A term without a path gives its letter only if there is a letter for which it can give it.
    return letters_of(other, FALSE if first_in(letters) is None else _given(kind, term, letters))


def _given(kind, term, letters):
    """A condition that is met by what the term gives for the letters of the set, which is not empty."""
    head = term[0]
    if head == "always":
        return exactly(term[1])
    if head == "pair":
        return ("and", ("first", _given(kind, term[1], letters)), ("second", _given(kind, term[2], letters)))
    if head in ("case", "some"):
        return term[:-1] + (_given(kind, term[-1], letters),)
    parts = projected(kind, letters, term[1])
    if head == "read":
        return ("in", parts)
    # What the term gives is read backwards: y is x + n exactly if x is y - n, and n - x exactly if x is n - y.
    return ("in", moved_set(parts, 1, -term[2]) if head == "plus" else moved_set(parts, -1, term[2]))


def put_behind(first, second):
    """A term that gives what the second term gives for what the first one gives.

    It is None if some path of the second term can not be followed in the first one.
    """
    head = second[0]
    if head == "always":
        return second
    if head == "pair":
        parts = [put_behind(first, part) for part in second[1:]]
        return None if None in parts else ("pair", parts[0], parts[1])
    if head in ("case", "some"):
        part = put_behind(first, second[-1])
        return None if part is None else second[:-1] + (part,)
    told = followed_in(first, second[1])
    if told is None or head == "read":
        return told
    return _line_behind(told, 1 if head == "plus" else -1, second[2])


def _line_behind(term, sign, n):
    """A term that gives sign times the integer that this one gives, and n more."""
    head = term[0]
    if head == "always":
        return ("always", sign * term[1] + n)
    moved_by = sign * (0 if head == "read" else term[2]) + n
    return ("minus" if (head == "minus") == (sign == 1) else "plus", term[1], moved_by)

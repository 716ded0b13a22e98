"""Conditions put together from conditions, paths and letters."""

TRUE = ("true",)
FALSE = ("false",)


def any_of(conditions):
    """A condition that is met if one of these is. It is split in halves, so that it is not deep even for many."""
    told = [condition for condition in conditions if condition != FALSE]
    if TRUE in told:
        return TRUE
    return _joined("or", told) if told else FALSE


def all_of(conditions):
    """A condition that is met if all of these are."""
    told = [condition for condition in conditions if condition != TRUE]
    if FALSE in told:
        return FALSE
    return _joined("and", told) if told else TRUE


def _joined(head, conditions):
    if len(conditions) == 1:
        return conditions[0]
    middle = len(conditions) // 2
    return (head, _joined(head, conditions[:middle]), _joined(head, conditions[middle:]))


def along(path, condition):
    """A condition that is met by the letters in which the path is there and leads to what meets the condition."""
    for step in path[::-1]:
        condition = ("case", step, condition) if isinstance(step, int) else (step, condition)
    return condition


def exactly(letter):
    """A condition that this letter alone meets."""
    if isinstance(letter, str):
        return ("is", letter)
    if isinstance(letter, int):
        return ("=", letter)
    if letter[0] == "pair":
        return ("and", ("first", exactly(letter[1])), ("second", exactly(letter[2])))
    if letter[0] == "case":
        return ("case", letter[1], exactly(letter[2]))
    return ("some", exactly(letter[1])) if letter[0] == "some" else ("none",)

"""Expressions taken apart and put together, however deep they are: no call goes into them part by part."""

VOID = ("void",)
EMPTY = ("empty",)
ALL = ("not", ("void",))


def parts_of(expression):
    """The expressions that stand directly in the expression."""
    return expression[1:] if expression[0] in ("or", "and", "not", "then", "star") else ()


def folded(expression, combine):
    """What combine(inner, values) makes of the expression, values being what it made of the parts of this one."""
    found = [expression]
    places = []
    at = 0
    while at < len(found):
        parts = parts_of(found[at])
        places.append((len(found), len(parts)))
        found.extend(parts)
        at += 1
    values = [None] * len(found)
    # Each expression stands behind the one in which it is, so from the back its parts are done before it.
    for at in range(len(found) - 1, -1, -1):
        start, many = places[at]
        values[at] = combine(found[at], values[start:start + many])
    return values[0]


def conditions_in(expression):
    """The conditions of the letters in the expression."""
    conditions = []
    waiting = [expression]
    while waiting:
        inner = waiting.pop()
        if inner[0] == "letter":
            conditions.append(inner[1])
        waiting.extend(parts_of(inner))
    return conditions


def means_empty(expression):
    """Whether the expression means the word without letters."""
    return folded(expression, lambda inner, truths: empty_by_parts(inner[0], truths))


def empty_by_parts(head, truths):
    """Whether an expression with this head means the word without letters, if its parts do so as the truths tell."""
    if head in ("void", "letter"):
        return False
    if head == "not":
        return not truths[0]
    if head == "or":
        return truths[0] or truths[1]
    if head in ("and", "then"):
        return truths[0] and truths[1]
    return True


def either_of(one, other):
    """An expression that means what one of the two means, or both."""
    if one == VOID or one == other:
        return other
    if other == VOID or one[0] == "star" and other == EMPTY:
        return one
    if one == EMPTY and other[0] == "star":
        return other
    return ("or", one, other)


def one_behind(one, other):
    """An expression that means what the first one means followed by what the second one means."""
    if VOID in (one, other):
        return VOID
    if one == EMPTY:
        return other
    return one if other == EMPTY else ("then", one, other)


def any_number(expression):
    """An expression that means any number of words of the expression one behind another."""
    if expression in (VOID, EMPTY):
        return EMPTY
    if expression[0] == "or" and EMPTY in expression[1:]:
        return any_number(expression[2] if expression[1] == EMPTY else expression[1])
    return expression if expression[0] == "star" else ("star", expression)

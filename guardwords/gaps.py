"""What keeps two terms apart: the ways in which they can give different letters for a letter for which both are there.

A gap is a condition on the letter, or ("apart", path, other path, sign, n): the part at the other path is not sign
times the part at the path and n more. Where parts are no integers the sign is 1 and n is 0. The two terms give
different letters exactly if there is at least one of their gaps.
"""

from guardwords.composing import TRUE, along, exactly
from guardwords.following import followed_in
from guardwords.pushing import condition_before

LEAVES = ("always", "read", "plus", "minus")


def gaps_between(one, other):
    """The gaps between two terms that fit from one kind to the same other kind."""
    if one[0] in LEAVES and other[0] in LEAVES:
        return _leaf_gaps(one, other)
    if one[0] in LEAVES:
        return gaps_between(other, one)
    if one[0] == "pair":
        firsts = gaps_between(one[1], followed_in(other, ("first",)))
        return firsts + gaps_between(one[2], followed_in(other, ("second",)))
    step = one[1] if one[0] == "case" else "some"
    below = followed_in(other, (step,))
    if below is None:
        return [TRUE]
    told = gaps_between(one[-1], below)
    if other[0] == "read":
        # What is read may also be a letter of another case, or "none".
        told.append(("not", along(other[1] + (step,), TRUE)))
    return told


def _leaf_gaps(one, other):
    if one[0] == "always" and other[0] == "always":
        return [] if one[1] == other[1] else [TRUE]
    if one[0] == "always":
        return _leaf_gaps(other, one)
    if other[0] == "always":
        return [("not", condition_before(one, exactly(other[1])))]
    return _line_gaps(_line(one), _line(other))


def _line(term):
    """The path of a term, and the sign and the n with which it gives what the path leads to."""
    if term[0] == "read":
        return (term[1], 1, 0)
    return (term[1], 1 if term[0] == "plus" else -1, term[2])


def _line_gaps(one, other):
    path, sign, n = one
    beside, turn, m = other
    if path != beside:
        return [("apart", path, beside, sign * turn, turn * (n - m))]
    if sign == turn:
        return [] if n == m else [TRUE]
    # The two integers are equal only where twice the integer that is read is sign times m - n.
    if (m - n) % 2 == 1:
        return [TRUE]
    return [("not", along(path, ("=", sign * ((m - n) // 2))))]

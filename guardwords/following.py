"""Paths in terms: which stand there, and where a path leads."""

from guardwords.letters import part_at


def paths_in(term):
    """The paths that stand in the term, one that stands there twice counted twice."""
    head = term[0]
    if head == "always":
        return []
    if head in ("read", "plus", "minus"):
        return [term[1]]
    if head == "pair":
        return paths_in(term[1]) + paths_in(term[2])
    return paths_in(term[-1])


def followed_in(term, path):
    """The term to which the path leads in the term, or None if it can not be followed."""
    for at, step in enumerate(path):
        head = term[0]
        if head == "read":
            return ("read", term[1] + path[at:])
        if head == "always":
            part = part_at(term[1], path[at:])
            return None if part is None else ("always", part)
        if head == "pair":
            term = term[1] if step == "first" else term[2]
        elif head == "case" and term[1] != step:
            return None
        else:
            term = term[-1]
    return term


def are_plain(terms):
    """Whether at most one path stands in all of the terms together."""
    return len([path for term in terms for path in paths_in(term)]) <= 1

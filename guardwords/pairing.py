"""First words for each two states of a least form: words that tell them apart, words that merge them."""


def parting_words(form):
    """The parting of each two states, the lesser one first."""
    return _completed(form, {(i, j): () for i, j in _pairs(form) if form.ends[i] != form.ends[j]})


def merging_words(form):
    """The merging of each two states that have one, the lesser one first."""
    merged = {}
    for i, j in _pairs(form):
        letters = [letter for letter, one, other in _letters_from(form, i, j) if one == other]
        if letters:
            merged[(i, j)] = (letters[0],)
    return _completed(form, merged)


def _pairs(form):
    many = len(form.rows)
    return [(i, j) for i in range(many) for j in range(i + 1, many)]


def _letters_from(form, i, j):
    """The first letters of the classes, each with the states to which it leads from i and from j."""
    return list(zip(form.division.firsts, form.rows[i], form.rows[j]))


def _completed(form, words):
    """The words of some pairs, and those of all pairs from which words lead to one of these."""
    pairs = _pairs(form)
    latest = words
    while latest:
        latest = _longer(form, [pair for pair in pairs if pair not in words], latest)
        words = {**words, **latest}
    return words


def _longer(form, pairs, latest):
    """The words of those pairs from which a letter leads to a pair whose word was found latest."""
    longer = {}
    for i, j in pairs:
        for letter, one, other in _letters_from(form, i, j):
            below = (min(one, other), max(one, other))
            if below in latest:
                longer[(i, j)] = (letter,) + latest[below]
                break
    return longer

"""First words along steps of which each has its own first letter."""

from guardwords.letters import rank


def first_word_along(kind, starts, follow, wanted, keep):
    """The first word that leads from the starts to something that is wanted, or None if there is none.

    follow(thing) has the pairs of a letter and of what it leads to from the thing. keep(thing) is asked for each thing
    that is found, in the order of the words that lead to it, and tells whether to go on from there.
    """
    level = [((), [thing for thing in starts if keep(thing)])]
    while level:
        longer = []
        for word, things in level:
            if any([wanted(thing) for thing in things]):
                return word
            for letter, targets in _by_letters(kind, things, follow):
                kept = [target for target in targets if keep(target)]
                if kept:
                    longer.append((word + (letter,), kept))
        level = longer
    return None


def _by_letters(kind, things, follow):
    """The letters, in their order, each with all to which it leads from the things."""
    targets = {}
    for thing in things:
        for letter, target in follow(thing):
            targets.setdefault(letter, []).append(target)
    return [(letter, targets[letter]) for letter in sorted(targets, key=lambda told: rank(kind, told))]


class Once:
    """Remembers what was found: each thing is new once."""

    def __init__(self):
        self.seen = {}

    def is_new(self, thing):
        """Whether the thing was not found before."""
        if thing in self.seen:
            return False
        self.seen[thing] = True
        return True

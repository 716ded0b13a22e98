"""Two machines beside each other: words that tell them apart, and tables that show that there are none."""

from guardwords.coupling import walkers_of
from guardwords.walking import explored, first_word_to


class Couple:
    """Two machines of one kind, and the pairs of sets of states of the first and of the second one."""

    def __init__(self, first, second):
        self.first, self.second = walkers_of(first, second)
        self.firsts = self.first.division.firsts
        self.start = (self.first.starts, self.second.starts)

    def behind(self, pair, number):
        """The pair behind a pair by a letter of the class."""
        return (self.first.behind(pair[0], number), self.second.behind(pair[1], number))

    def ended(self, pair):
        """Whether each of the two sets has an end."""
        return (self.first.has_end(pair[0]), self.second.has_end(pair[1]))


class Linked:
    """The least equivalence relation in which the two sets of each pair that was linked are equivalent."""

    def __init__(self):
        self.above = {}

    def link(self, pair):
        """Make the two sets of the pair equivalent."""
        one, other = self._tops(pair)
        if one != other:
            self.above[one] = other

    def has(self, pair):
        """Whether the two sets of the pair are equivalent."""
        one, other = self._tops(pair)
        return one == other

    def _tops(self, pair):
        # A set of the first machine and a set of the second one differ, even if they are equal tuples.
        return (self._top((0, pair[0])), self._top((1, pair[1])))

    def _top(self, thing):
        top = thing
        while top in self.above:
            top = self.above[top]
        # The way is made shorter for the next question.
        if top != thing:
            self.above[thing] = top
        return top


def compare(first, second):
    """The first word that exactly one of the two machines takes, or None if they take the same words."""
    couple = Couple(first, second)
    return _first_word(couple, ((True, False), (False, True)))


def within(first, second):
    """The first word that the first machine takes and the second one does not, or None if there is none."""
    couple = Couple(first, second)
    return _first_word(couple, ((True, False),))


def _first_word(couple, ends):
    return first_word_to(couple.start, couple.firsts, couple.behind, lambda pair: couple.ended(pair) in ends)


def table(first, second):
    """The pairs of sets that are behind the same word, in the order of the first words behind which they are."""
    return _table(Couple(first, second))


def _table(couple):
    return tuple(explored(couple.start, couple.firsts, couple.behind).found)


def closes(first, second, pairs):
    """Whether the pairs close as a table for the two machines."""
    couple = Couple(first, second)
    known = {pair: True for pair in pairs}
    return _agree(couple, pairs) and all([pair in known for pair in _asked(couple, pairs)])


def _agree(couple, pairs):
    """Whether in each of the pairs both sets have an end, or none of them."""
    return all([couple.ended(pair) in ((True, True), (False, False)) for pair in pairs])


def _asked(couple, pairs):
    """The pair of the starts, and the pairs behind these pairs by one letter."""
    classes = range(len(couple.firsts))
    return [couple.start] + [couple.behind(pair, number) for pair in pairs for number in classes]


def links(first, second):
    """The pairs of the table without those that the pairs left before them link."""
    left = []
    linked = Linked()
    for pair in _table(Couple(first, second)):
        if not linked.has(pair):
            linked.link(pair)
            left.append(pair)
    return tuple(left)


def links_close(first, second, pairs):
    """Whether the pairs close by links for the two machines."""
    couple = Couple(first, second)
    linked = Linked()
    for pair in pairs:
        linked.link(pair)
    return _agree(couple, pairs) and all([linked.has(pair) for pair in _asked(couple, pairs)])

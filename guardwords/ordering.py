"""The words that are taken from sets of states of a machine: how many there are, and in which order they stand.

Words are built letter by letter in the sets of states behind their beginnings. Which lengths of words are taken from a
state is known beforehand, so only beginnings of words that are taken are followed.
"""

from guardwords.reaching import targets_of
from guardwords.sets import letters_before, next_letter, size


class Order:
    """The words of a machine, by their numbers and in their order.

    able[left] tells of each state whether some word with so many letters is taken from it; it is made longer where more
    is asked for. sizes has for each class of letters how many letters it has, None for endlessly many.
    """

    def __init__(self, walker):
        self.walker = walker
        self.kind = walker.division.kind
        self.firsts = walker.division.firsts
        self.targets = targets_of(walker)
        self.able = [[state in walker.ends for state in range(len(self.targets))]]
        classes = range(len(self.firsts))
        alone = [walker.division.letters_in([other == number for other in classes]) for number in classes]
        self.sizes = [size(self.kind, letters) for letters in alone]

    def is_able(self, states, left):
        """Whether some word with so many letters is taken from one of the states."""
        while len(self.able) <= left:
            shorter = self.able[-1]
            self.able.append([any([shorter[target] for target in row]) for row in self.targets])
        truths = self.able[left]
        return any([truths[state] for state in states])

    def ways_on(self, states, left):
        """The sets behind the states by the classes of letters from which a word of this length is taken.

        They are the pairs of the number of the class and of the set.
        """
        behind = [(number, self.walker.behind(states, number)) for number in range(len(self.firsts))]
        return [(number, told) for number, told in behind if self.is_able(told, left)]

    def many_words(self, states, length):
        """How many words of this length are taken from the states, None for endlessly many."""
        counts = {states: 1} if self.is_able(states, length) else {}
        for left in range(length - 1, -1, -1):
            longer = {}
            for told, many in counts.items():
                for number, behind in self.ways_on(told, left):
                    if self.sizes[number] is None:
                        return None
                    longer[behind] = longer.get(behind, 0) + many * self.sizes[number]
            counts = longer
        return sum(counts.values())

    def first_of(self, states, length):
        """The first word of this length that is taken from the states, or None if there is none."""
        if not self.is_able(states, length):
            return None
        word = ()
        for left in range(length - 1, -1, -1):
            number, states = self.ways_on(states, left)[0]
            word = word + (self.firsts[number],)
        return word

    def first_word(self):
        """The first word of all, or None if there is none."""
        starts = self.walker.starts
        return () if self.is_able(starts, 0) else self._next_longer(0)

    def next_of(self, word):
        """The first word behind this one, or None if there is none."""
        beside = self.next_beside(word)
        return self._next_longer(len(word)) if beside is None else beside

    def _next_longer(self, length):
        """The first word with more than so many letters, or None if there is none."""
        starts = self.walker.starts
        # From a word that is longer still by more letters than there are states some circle can be left out.
        for longer in range(length + 1, length + len(self.targets) + 1):
            if self.is_able(starts, longer):
                return self.first_of(starts, longer)
        return None

    def next_beside(self, word):
        """The first word of the same length behind this one, or None if there is none."""
        sets = self._sets_along(word)
        for at in range(len(word) - 1, -1, -1):
            left = len(word) - at - 1
            numbers = [number for number, behind in self.ways_on(sets[at], left)]
            letter = next_letter(self.kind, self._letters_of(numbers), word[at])
            if letter is not None:
                behind = self.walker.behind(sets[at], self.walker.division.class_of(letter))
                return word[:at] + (letter,) + self.first_of(behind, left)
        return None

    def _sets_along(self, word):
        """The sets behind the beginnings of the word, from the one without letters to the whole."""
        sets = [self.walker.starts]
        for letter in word:
            sets.append(self.walker.behind(sets[-1], self.walker.division.class_of(letter)))
        return sets

    def _letters_of(self, numbers):
        """The letter set of the letters of some classes."""
        return self.walker.division.letters_in([number in numbers for number in range(len(self.firsts))])

    def many_before(self, word):
        """How many words are before this one, None for endlessly many."""
        sets = self._sets_along(word)
        shorter = [self.many_words(self.walker.starts, length) for length in range(len(word))]
        beside = [self._many_beside(sets[at], word[at], len(word) - at - 1) for at in range(len(word))]
        return None if None in shorter + beside else sum(shorter + beside)

    def _many_beside(self, states, letter, left):
        """How many words from the states have a first letter before this one, and so many letters behind it."""
        groups = {}
        for number, behind in self.ways_on(states, left):
            groups.setdefault(behind, []).append(number)
        total = 0
        for behind, numbers in groups.items():
            many = letters_before(self.kind, self._letters_of(numbers), letter)
            if many != 0:
                each = self.many_words(behind, left)
                if many is None or each is None:
                    return None
                total += many * each
        return total

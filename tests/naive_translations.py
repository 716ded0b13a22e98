"""Terms and translations gone through letter by letter, by the words of the document; nothing is taken from the package."""

from tests import naive
from tests.support import COLOURS, INTEGERS, Chance, key, letters_near, met, span, word_key

# --- terms -------------------------------------------------------------------------------------------------------


def below(kind, step):
    """The kind to which the step leads, or None."""
    match kind, step:
        case ("pair", first, _), "first":
            return first
        case ("pair", _, second), "second":
            return second
        case ("maybe", inner), "some":
            return inner
        case ("either", kinds), int():
            return kinds[step] if step < len(kinds) else None
    return None


def at_path(kind, path):
    for step in path:
        kind = None if kind is None else below(kind, step)
    return kind


def part_at(letter, path):
    for step in path:
        match letter, step:
            case ("pair", first, _), "first":
                letter = first
            case ("pair", _, second), "second":
                letter = second
            case ("some", part), "some":
                letter = part
            case ("case", i, part), int() if i == step:
                letter = part
            case _:
                return None
    return letter


def gives(term, letter):
    """What the term gives for the letter, or None, by the table of [170]."""
    match term:
        case ("always", told):
            return told
        case ("read", path):
            return part_at(letter, path)
        case ("plus", path, n):
            part = part_at(letter, path)
            return None if part is None else part + n
        case ("minus", path, n):
            part = part_at(letter, path)
            return None if part is None else n - part
        case ("pair", t, u):
            one, other = gives(t, letter), gives(u, letter)
            return None if one is None or other is None else ("pair", one, other)
        case ("case", i, t):
            part = gives(t, letter)
            return None if part is None else ("case", i, part)
        case ("some", t):
            part = gives(t, letter)
            return None if part is None else ("some", part)
    raise AssertionError(term)


def paths_of(term):
    match term:
        case ("read", path) | ("plus", path, _) | ("minus", path, _):
            return [path]
        case ("always", _):
            return []
    return [path for part in term if isinstance(part, tuple) for path in paths_of(part)]


def moved_by(*terms):
    """How far the terms move integers at most."""
    numbers = [0]
    for term in terms:
        match term:
            case ("plus" | "minus", _, n):
                numbers.append(abs(n))
            case ("always", letter):
                numbers.append(largest(letter))
            case _:
                numbers.append(moved_by(*[part for part in term if isinstance(part, tuple) and part and part[0] in FORMS]))
    return max(numbers)


FORMS = ("always", "read", "plus", "minus", "pair", "case", "some")


def largest(letter):
    if isinstance(letter, int):
        return abs(letter)
    return max([0] + [largest(part) for part in letter if not isinstance(part, str)]) if isinstance(letter, tuple) else 0


# --- translations ------------------------------------------------------------------------------------------------


def written(terms, letter):
    return tuple(gives(term, letter) for term in terms)


def moves(translation, states, letter):
    """The pairs (state, what was written) behind such pairs by the letter."""
    return {
        (target, told + written(terms, letter))
        for state, told in states for source, condition, terms, target in translation[5]
        if source == state and met(condition, letter)
    }


def runs(translation, word):
    states = {(state, ()) for state in translation[3]}
    for letter in word:
        states = moves(translation, states, letter)
    return states


def results(translation, word):
    told = {before + word for state, before in runs(translation, word) for at, word in translation[4] if at == state}
    return tuple(sorted(told, key=lambda word: word_key(translation[1], word)))


def reach_of(*translations):
    conditions = [step[1] for translation in translations for step in translation[5]]
    terms = [term for translation in translations for step in translation[5] for term in step[2]]
    bound, period = span(conditions)
    return bound + 2 * period + moved_by(*terms)


def domain_machine(translation):
    kind, _, many, starts, ends, steps = translation
    return (kind, many, starts, tuple(sorted({state for state, _ in ends})), tuple((p, c, q) for p, c, _, q in steps))


def single(translation, words):
    """The first one of the words with two results, or None."""
    return next((word for word in words if len(results(translation, word)) > 1), None)


def unlike(first, second, word):
    """Whether the word has a result by the first one, and another one by the second one."""
    return any(one != other for one in results(first, word) for other in results(second, word))


# --- agreement ---------------------------------------------------------------------------------------------------


class Beside:
    """Two translations beside each other, over the letters near."""

    def __init__(self, first, second, reach=None):
        self.first, self.second = first, second
        self.letters = letters_near(first[0], reach_of(first, second) if reach is None else reach)
        self.pairs = [(p, q) for p in range(first[2]) for q in range(second[2])]
        self.starts = [(p, q) for p in first[3] for q in second[3]]

    def both(self, i, j):
        return [a for a in self.letters if met(self.first[5][i][1], a) and met(self.second[5][j][1], a)]

    def double_steps(self, p, q):
        return tuple(
            (i, j, self.both(i, j)[0]) for i, step in enumerate(self.first[5]) for j, other in enumerate(self.second[5])
            if step[0] == p and other[0] == q and self.both(i, j)
        )

    def ended(self, pair):
        return any(p == pair[0] for p, _ in self.first[4]) and any(q == pair[1] for q, _ in self.second[4])

    def target(self, i, j):
        return (self.first[5][i][3], self.second[5][j][3])

    def ends_together(self, p, q):
        found = naive.explore(frozenset([(p, q)]), self.letters, lambda pairs, a: frozenset(
            (step[3], other[3]) for one, two in pairs for step in self.first[5] for other in self.second[5]
            if step[0] == one and other[0] == two and met(step[1], a) and met(other[1], a)))
        return next((word for pairs, word in found.items() if any(self.ended(pair) for pair in pairs)), None)

    def closes(self, table):
        """Whether a table of delays closes, by [191]."""
        triples, dead = table
        told = {(p, q): delay for p, q, delay in triples}
        if any(pair not in dead and told.get(pair) != (0, ()) for pair in self.starts):
            return False
        for pair in dead:
            if self.ended(pair) or any(self.target(i, j) not in dead for i, j, _ in self.double_steps(*pair)):
                return False
        return all(self._closes_at(pair, delay, told, dead) for pair, delay in told.items())

    def _closes_at(self, pair, delay, told, dead):
        side, word = delay
        for p, e in self.first[4]:
            for q, f in self.second[4]:
                if (p, q) == pair and (word + e, f)[side] != (f, word + f)[side] and side == 0:
                    return False
                if (p, q) == pair and side == 1 and e != word + f:
                    return False
        for i, j, _ in self.double_steps(*pair):
            if self.target(i, j) not in dead and self.next_delay(delay, i, j) != told.get(self.target(i, j), "none"):
                return False
        return True

    def next_delay(self, delay, i, j):
        side, word = delay
        before = tuple(("always", a) for a in word)
        one, other = self.first[5][i][2], self.second[5][j][2]
        one, other = (before + one, other) if side == 0 else (one, before + other)
        letters = self.both(i, j)
        many = min(len(one), len(other))
        if any(gives(t, a) != gives(u, a) for t, u in zip(one, other) for a in letters):
            return None
        rest = [{gives(term, a) for a in letters} for term in one[many:] + other[many:]]
        if any(len(told) != 1 for told in rest):
            return None
        return (1 if len(other) > many else 0, tuple(min(told, key=repr) for told in rest))


# --- leading -----------------------------------------------------------------------------------------------------


def lead_letters(translation, first, second):
    reach = reach_of(translation) + sum(span([step[1] for machine in (first, second) for step in machine[4]]))
    return letters_near(translation[0], reach)


def lead_ways(translation, first, second, letters):
    """For each triple what it leads to by each letter, worked out when it is asked for."""
    def follow(triple, a):
        q, at, states = triple
        return {
            (target, further, naive.behind_word(second, states, written(terms, a)))
            for state, condition, terms, target in translation[5] if state == q and met(condition, a)
            for source, wanted, further in first[4] if source == at and met(wanted, a)
        }
    return follow


def lead_table(translation, first, second):
    letters = lead_letters(translation, first, second)
    follow = lead_ways(translation, first, second, letters)
    found = {(q, a, second[2]) for q in translation[3] for a in first[2]}
    waiting = list(found)
    for triple in waiting:
        for letter in letters:
            for new in follow(triple, letter) - found:
                found.add(new)
                waiting.append(new)
    return tuple(sorted(found))


def missed(translation, first, second, triple):
    return triple[1] in first[3] and any(
        not naive.ended(second, naive.behind_word(second, triple[2], word))
        for state, word in translation[4] if state == triple[0])


def lead_closes(translation, first, second, triples):
    letters = lead_letters(translation, first, second)
    follow = lead_ways(translation, first, second, letters)
    told = set(triples)
    return (
        {(q, a, second[2]) for q in translation[3] for a in first[2]} <= told
        and not any(missed(translation, first, second, triple) for triple in told)
        and all(follow(triple, a) <= told for triple in told for a in letters)
    )


# --- by chance ---------------------------------------------------------------------------------------------------


class Writer(Chance):
    """Terms and translations drawn by chance."""

    def term(self, kind, other, many=6, most=None):
        """A term that fits from the kind to the other one, with at most so many terms in it."""
        most = self.most if most is None else most
        paths = [path for path in self.paths(kind) if at_path(kind, path) == other]
        if paths and self.random() < 0.6:
            path = self.choice(paths)
            if other == INTEGERS and self.random() < 0.6:
                return (self.choice(("plus", "minus")), path, self.randint(-most, most))
            return ("read", path)
        if other[0] == "pair" and many >= 3 and self.random() < 0.8:
            left = self.randint(1, many - 2)
            return ("pair", self.term(kind, other[1], left, most), self.term(kind, other[2], many - 1 - left, most))
        if other[0] == "either" and many >= 2 and self.random() < 0.8:
            i = self.randrange(len(other[1]))
            return ("case", i, self.term(kind, other[1][i], many - 1, most))
        if other[0] == "maybe" and many >= 2 and self.random() < 0.8:
            return ("some", self.term(kind, other[1], many - 1, most))
        return ("always", self.letter(other, most))

    def paths(self, kind):
        """All paths that fit the kind."""
        found = [()]
        for path in found:
            steps = [step for step in ("first", "second", "some", 0, 1, 2) if below(at_path(kind, path), step) is not None]
            found += [path + (step,) for step in steps]
        return found

    def translation(self, kind, other, states=3, steps=5, many=3, most=None, plain=False, sizes=(0, 1, 1, 2)):
        """A translation that is right, mostly with a start and an end."""
        size = self.randint(1, states)
        told = []
        for _ in range(self.randint(min(2, steps), steps)):
            terms = tuple(self.term(kind, other, 4, most) for _ in range(self.choice(sizes)))
            while plain and sum(len(paths_of(term)) for term in terms) > 1:
                terms = tuple(self.term(kind, other, 4, most) for _ in range(self.choice(sizes)))
            condition = self.condition(kind, self.randint(1, many))
            for path in {path for term in terms for path in paths_of(term)}:
                if path_condition(path) != ("true",):
                    condition = ("and", path_condition(path), condition)
            told.append((self.randrange(size), condition, terms, self.randrange(size)))
        starts = self.states(size, (0, 1, 1, 1, 1, 1, 2))
        return (kind, other, size, starts, self.end_words(size, other, most), tuple(told))

    def end_words(self, size, other, most):
        words = {
            (self.randrange(size), self.word(other, self.choice((0, 0, 0, 1, 1, 2)), most))
            for _ in range(self.choice((0, 1, 1, 1, 2, 2, 4)))
        }
        return tuple(sorted(words, key=repr))


def path_condition(path):
    """The condition that the path is there, by [22]."""
    condition = ("true",)
    for step in reversed(path):
        condition = ("case", step, condition) if isinstance(step, int) else (step, condition)
    return condition


SMALL_KINDS = (INTEGERS, COLOURS, ("maybe", INTEGERS), ("pair", COLOURS, INTEGERS), ("either", (INTEGERS, COLOURS)))


def drawn(seeds, most=1, mods=(1, 2), limit=40, kinds=SMALL_KINDS):
    """Chances with two kinds of which not too many letters stand for all."""
    for seed in seeds:
        chance = Writer(seed, most, mods)
        kind, other = chance.choice(kinds), chance.choice(kinds)
        if len(letters_near(kind, most + 2)) <= limit:
            yield chance, kind, other


def first_key(kind):
    return lambda letter: key(kind, letter)

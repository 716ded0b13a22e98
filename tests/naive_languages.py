"""Numbers of words, expressions and equations worked out by the words of the document, nothing taken from the package."""

import itertools

from tests import naive
from tests.support import key, letters_near, met, span, word_key

# --- counting ----------------------------------------------------------------------------------------------------


def integers_in(letter):
    """All integers in the letter but the numbers of cases."""
    if isinstance(letter, int):
        return [letter]
    if isinstance(letter, str) or letter == ("none",):
        return []
    return [number for part in letter[2 if letter[0] == "case" else 1:] for number in integers_in(part)]


def is_far(letter, bound):
    """Whether endlessly many letters meet the same conditions as this one: one of its integers is beyond the bound."""
    return any(abs(number) > bound for number in integers_in(letter))


def count(machine, length):
    """The number of words of this length, going over letters that stand for all letters; None for endlessly many."""
    bound, period = naive.reach_of(machine)
    letters = letters_near(machine[0], bound + period)
    counts = {(machine[2], False): 1}
    for _ in range(length):
        longer = {}
        for (states, far), many in counts.items():
            for letter in letters:
                told = (naive.behind(machine, states, letter), far or is_far(letter, bound))
                longer[told] = longer.get(told, 0) + many
        counts = longer
    taken = [(far, many) for (states, far), many in counts.items() if naive.ended(machine, states)]
    return None if any(far for far, _ in taken) else sum(many for _, many in taken)


def is_endless(machine):
    many = len(naive.sets_of(machine))
    numbers = [count(machine, length) for length in range(2 * many)]
    return None in numbers or any(numbers[many:])


def length_truths(machine):
    """Whether words of the lengths 0, 1, and so on are taken, and from where and with which period this comes back."""
    letters = naive.letters_of_all(machine)
    found, states = [], machine[2]
    while states not in found:
        found.append(states)
        states = tuple(sorted({q for letter in letters for q in naive.behind(machine, states, letter)}))
    return [naive.ended(machine, told) for told in found], found.index(states)


def first_of_length(machine, length):
    """The first word of the length: for each set the first word that leads to it is kept."""
    level = {machine[2]: ()}
    letters = naive.letters_of_all(machine)
    for _ in range(length):
        longer = {}
        for states, word in sorted(level.items(), key=lambda item: word_key(machine[0], item[1])):
            for letter in letters:
                longer.setdefault(naive.behind(machine, states, letter), word + (letter,))
        level = longer
    words = [word for states, word in level.items() if naive.ended(machine, states)]
    return min(words, key=lambda word: word_key(machine[0], word), default=None)


def words_near(machine, length, reach):
    """The words of the length that the machine takes with integers up to the reach, in their order."""
    ways = [((), machine[2])]
    letters = letters_near(machine[0], reach)
    for _ in range(length):
        ways = [(word + (a,), naive.behind(machine, states, a)) for word, states in ways if states for a in letters]
    return [word for word, states in ways if naive.ended(machine, states)]


def reach_beside(machine, word):
    """How far integers go in the words of the same length next to this one, and the period."""
    bound, period = naive.reach_of(machine)
    return max([bound] + [abs(number) for letter in word for number in integers_in(letter)]) + period, period


def next_word(machine, word):
    kind = machine[0]
    reach, _ = reach_beside(machine, word)
    for told in words_near(machine, len(word), reach):
        if word_key(kind, told) > word_key(kind, word):
            return told
    for length in range(len(word) + 1, len(word) + machine[1] + 2):
        told = first_of_length(machine, length)
        if told is not None:
            return told
    return None


def words_before(machine, word):
    kind = machine[0]
    shorter = [count(machine, length) for length in range(len(word))]
    reach, period = reach_beside(machine, word)
    beside = [
        sum(word_key(kind, told) < word_key(kind, word) for told in words_near(machine, len(word), far))
        for far in (reach, reach + period)
    ]
    # What grows with the reach has no end.
    return None if None in shorter or beside[0] != beside[1] else sum(shorter) + beside[0]


# --- growth ------------------------------------------------------------------------------------------------------


def first_two_ways(groups, state, length):
    """For each length up to this one the first two words that lead from the state of the least form back to it."""
    kind = groups.machine[0]
    bound, period = naive.reach_of(groups.machine)
    letters = letters_near(kind, bound + 2 * period)
    rows = {a: groups.action((a,)) for a in letters}
    level = {state: [()]}
    for _ in range(length):
        longer = {}
        for source, words in level.items():
            for word, letter in itertools.product(words, letters):
                longer.setdefault(rows[letter][source], []).append(word + (letter,))
        level = {told: sorted(words, key=lambda word: word_key(kind, word))[:2] for told, words in longer.items()}
        yield level.get(state, [])


# --- expressions -------------------------------------------------------------------------------------------------


def parts(expression):
    return [part for part in expression[1:] if expression[0] != "letter"]


def size(expression):
    return 1 + sum(size(part) for part in parts(expression))


def conditions(expression):
    if expression[0] == "letter":
        return [expression[1]]
    return [condition for part in parts(expression) for condition in conditions(part)]


def letters_for(kind, *expressions):
    """Letters that stand for all letters, in their order."""
    return letters_near(kind, sum(span([told for one in expressions for told in conditions(one)])))


def some_letters(kind, *expressions):
    """The first letter of each class of the conditions in the expressions."""
    told = [condition for one in expressions for condition in conditions(one)]
    firsts = {}
    for letter in letters_for(kind, *expressions):
        firsts.setdefault(tuple(met(condition, letter) for condition in told), letter)
    return sorted(firsts.values(), key=lambda letter: key(kind, letter))


def meant(expression, word):
    """Whether the expression means the word, by the table of [150]."""
    match expression:
        case ("void",):
            return False
        case ("empty",):
            return word == ()
        case ("letter", condition):
            return len(word) == 1 and met(condition, word[0])
        case ("or", e, f):
            return meant(e, word) or meant(f, word)
        case ("and", e, f):
            return meant(e, word) and meant(f, word)
        case ("not", e):
            return not meant(e, word)
        case ("then", e, f):
            return any(meant(e, word[:k]) and meant(f, word[k:]) for k in range(len(word) + 1))
        case ("star", e):
            return word == () or any(meant(e, word[:k]) and meant(expression, word[k:]) for k in range(1, len(word) + 1))
    raise AssertionError(expression)


def derivative(expression, letter):
    """The derivative, by the table of [151]."""
    match expression:
        case ("void",) | ("empty",):
            return ("void",)
        case ("letter", condition):
            return ("empty",) if met(condition, letter) else ("void",)
        case ("then", e, f):
            begun = ("then", derivative(e, letter), f)
            return ("or", begun, derivative(f, letter)) if meant(e, ()) else begun
        case ("star", e):
            return ("then", derivative(e, letter), expression)
    return (expression[0], *[derivative(part, letter) for part in expression[1:]])


def expression_by(chance, kind, many=8, simple=2):
    """An expression drawn by chance with at most so many expressions in it."""
    if many >= 3 and chance.random() < 0.7:
        left = chance.randint(1, many - 2)
        head = chance.choice(("or", "or", "and", "then", "then", "then"))
        return (head, expression_by(chance, kind, left, simple), expression_by(chance, kind, many - 1 - left, simple))
    if many >= 2 and chance.random() < 0.6:
        return (chance.choice(("star", "star", "star", "not")), expression_by(chance, kind, many - 1, simple))
    if chance.random() < 0.15:
        return chance.choice((("void",), ("empty",)))
    return ("letter", chance.condition(kind, simple))


# --- equations ---------------------------------------------------------------------------------------------------


def right_sides(equations, sets, words):
    """The right sides for sets of words, as far as the words go; sets tell of each unknown which words it has."""
    told = []
    for coefficients, expression in equations:
        told.append({
            word for word in words
            if meant(expression, word) or any(
                word[k:] in unknown and meant(factor, word[:k])
                for factor, unknown in zip(coefficients, sets) for k in range(len(word) + 1))
        })
    return told


def solution(equations, words, greatest):
    """The least or the greatest solution, as far as the words go: all beginnings and ends of a word are among them."""
    sets = [set(words) if greatest else set() for _ in equations]
    while right_sides(equations, sets, words) != sets:
        sets = right_sides(equations, sets, words)
    return sets

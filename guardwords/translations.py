"""Translations: which are right, their results, and machines and translations made from them."""

from guardwords.composing import exactly
from guardwords.conditions import check_conditions
from guardwords.coupling import check_over
from guardwords.errors import NotPlain, OtherKinds, Unread
from guardwords.following import are_plain
from guardwords.imaging import image_of
from guardwords.joining import both_take, products
from guardwords.letters import check_word, rank
from guardwords.linking import translation_behind
from guardwords.machines import first_word
from guardwords.membership import first_shared
from guardwords.outputs import Telling, behind_word, end_words_of, results_from, sets_of, step_conditions
from guardwords.pushing import all_there
from guardwords.sets import common
from guardwords.solver import first_met
from guardwords.terms import check_term
from guardwords.trimming import trimmed_machine, trimmed_translation
from guardwords.walking import conditions_of


def check_translation(translation):
    """Raise the error that is told first if the translation is not right."""
    kind, other, many, starts, ends, steps = translation
    check_conditions(kind, step_conditions(translation))
    for state, condition, terms, target in steps:
        for term in terms:
            check_term(kind, other, term)
    for state, word in ends:
        check_word(other, word)
    for number, (state, condition, terms, target) in enumerate(steps):
        letter = first_met(kind, ("and", condition, ("not", all_there(terms))))
        if letter is not None:
            raise Unread(number, letter)


def results(translation, word):
    """The results of the word, each once, in their order."""
    check_word(translation[0], word)
    words = results_from(translation, translation[3], word)
    letters = {letter: True for told in words for letter in told}
    ranks = {letter: rank(translation[1], letter) for letter in letters}
    return tuple(sorted(words, key=lambda told: (len(told), [ranks[letter] for letter in told])))


def domain(translation):
    """A machine that takes the words that have a result."""
    kind, other, many, starts, ends, steps = translation
    ended = sorted({state for state, word in ends})
    return (kind, many, starts, tuple(ended), tuple([
        (state, condition, target) for state, condition, terms, target in steps
    ]))


def restricted(translation, machine):
    """The translation with its results for the words that the machine takes, and without all others."""
    kind = translation[0]
    check_over(machine, kind)
    many = machine[1]
    told = sets_of(kind, step_conditions(translation))
    asked = sets_of(kind, conditions_of(machine))
    steps = [
        (step[0] * many + way[0], ("in", common(kind, letters, wanted)), step[2], step[3] * many + way[2])
        for step, letters in zip(translation[5], told) for way, wanted in zip(machine[4], asked)
        if first_shared(kind, letters, wanted) is not None
    ]
    ends = [(state * many + end, word) for state, word in translation[4] for end in machine[3]]
    starts = products(translation[3], machine[2], many)
    return trimmed_translation(translation[:2], translation[2] * many, starts, ends, steps)


def inverse(translation, machine):
    """A machine that takes the words that have some result which this machine takes."""
    kind, other, size, starts, ends, steps = translation
    check_over(machine, other)
    many = machine[1]
    ways = []
    for step in steps:
        telling = Telling(kind, step, conditions_of(machine))
        for state in range(many):
            for target, letters in _letters_from(telling, machine, state):
                ways.append((step[0] * many + state, ("in", letters), step[3] * many + target))
    ended = [
        state * many + at for state, words in enumerate(end_words_of(translation)) for at in range(many)
        if any([_leads_to_end(machine, at, word) for word in words])
    ]
    return trimmed_machine(kind, size * many, products(starts, machine[2], many), ended, ways)


def _letters_from(telling, machine, state):
    """The pairs of each state to which the machine is led from this one, and of the letter set of what is written."""
    numbers = {}
    for number, word in telling.words:
        for target in behind_word(machine, (state,), word):
            numbers.setdefault(target, []).append(number)
    return [(target, telling.letters_in(numbers[target])) for target in sorted(numbers)]


def _leads_to_end(machine, state, word):
    return any([end in machine[3] for end in behind_word(machine, (state,), word)])


def behind(first, second):
    """The translation with the results that the second one has for the results of the first one."""
    if first[1] != second[0]:
        raise OtherKinds("the second translation does not read what the first one writes")
    return translation_behind(first, second)


def image(translation, machine):
    """A machine that takes the results of the words that this machine takes; the translation is plain."""
    check_over(machine, translation[0])
    for number, (state, condition, terms, target) in enumerate(translation[5]):
        if not are_plain(terms):
            raise NotPlain(number)
    return image_of(translation, machine)


def source(translation, machine, word):
    """The first word that the machine takes and that has this one as a result, or None if there is none."""
    check_over(machine, translation[0])
    steps = tuple([(at, exactly(letter), at + 1) for at, letter in enumerate(word)])
    alone = (translation[1], len(word) + 1, (0,), (len(word),), steps)
    return first_word(both_take(machine, inverse(translation, alone)))

"""What holds over the whole program: [2], [4], [6], [61], [73], [80], [81], [91], [141], [191], [193], [200], [211].

Machines that translations come to are passed to the functions for machines, and each answer about all words is held
against what shows it.
"""

import ast
import inspect
import unittest

from guardwords import agreement, desks, differences, leading, parting, terms, translations, writing
from guardwords.actions import actions, letter_classes, mergings, reset_word, turning_word
from guardwords.agreement import check_delays, delays
from guardwords.comparing import closes, compare, links, links_close, table, within
from guardwords.counting import count, is_endless, lengths, next_word, word_at, words_before
from guardwords.differences import disagreement, same, second_result
from guardwords.errors import NotSingle, TooMany
from guardwords.expressions import means, to_expression
from guardwords.forms import first_words, holds_against, least, partings
from guardwords.growth import degree, doubling
from guardwords.joining import backwards, both_take, followed, not_taken, one_takes, repeated
from guardwords.leading import check_lead, lead_table, leads, safe
from guardwords.machines import check_machine, first_word, is_trap, takes, trap
from guardwords.runs import first_run, split_closes, split_table, two_runs, ways
from guardwords.translations import check_translation, domain, image, inverse, results, source
from guardwords.writing import certain, doubt, written
from tests.naive_translations import Writer, paths_of
from tests.support import INTEGERS, Case, word_key

EVENS = (INTEGERS, 1, (0,), (0,), ((0, ("mod", 2, 0), 0),))

# What the interface lists, with the arguments.
LISTED = {
    terms: "check_term(kind, other, term) gives(term, letter) is_plain(term) there(kind, term) before(kind, other, term, condition) "
           "given_letters(kind, other, term, condition) put_behind(first, second)",
    parting: "part(kind, condition, other, first, second) constant(kind, condition, other, term)",
    translations: "check_translation(translation) results(translation, word) domain(translation) restricted(translation, machine) "
                  "inverse(translation, machine) behind(first, second) image(translation, machine) source(translation, machine, word)",
    agreement: "double_steps(first, second, p, q) ends_together(first, second, p, q) delays(first, second) check_delays(first, second, table)",
    differences: "disagreement(first, second) second_result(translation) same(first, second)",
    leading: "leads(translation, first, second) lead_table(translation, first, second) check_lead(translation, first, second, triples) "
             "safe(translation, machine)",
    writing: "certain(translation, word) doubt(translation, word) written(translation, word)",
    desks.Desk: "put(self, name, definition) drop(self, name) undo(self, *, many=1) definition(self, name) role(self, name) weight(self, name) "
                "users(self, name) least(self, name) takes(self, name, word) results(self, name, word) compare(self, first, second) "
                "same(self, first, second) leads(self, translation, first, second) __len__(self) __iter__(self) __contains__(self, name)",
}


def listed():
    for place, text in LISTED.items():
        for told in text.replace(") ", ")\n").split("\n"):
            yield place, told.split("(")[0], "(" + told.split("(", 1)[1]


class Interface(Case):
    def test_names_and_arguments(self):
        for place, name, arguments in listed():
            found = vars(place)[name]
            self.assertEqual(str(inspect.signature(found)), arguments, name)
            self.assertEqual(found.__module__, desks.__name__ if place is desks.Desk else place.__name__)
        self.assertEqual(str(inspect.signature(desks.Desk.made)), "(pairs)")
        self.assertIsInstance(vars(desks.Desk)["made"], classmethod)
        self.assertIsInstance(vars(desks.Desk)["log"], property)
        self.assertEqual(str(inspect.signature(desks.Desk)), "()")

    def test_a_generator(self):
        self.assertTrue(inspect.isgenerator(written((INTEGERS, INTEGERS, 1, (), (), ()), ())))


def drawn(seeds):
    """A translation at the bounds, another one of its kinds, and machines over both kinds."""
    for seed in seeds:
        chance = Writer(seed, 20 if seed % 2 else 2, (1, 2, 3, 4))
        kind, other = chance.kind(), chance.kind()
        translation = chance.translation(kind, other, plain=seed % 3 > 0)
        yield chance, translation, chance.translation(kind, other), chance.machine(kind), chance.machine(other)


def made_of(translation, first, second):
    """Machines that the translation comes to, of at most 16 states."""
    told = [domain(translation), inverse(translation, second), safe(translation, second)]
    if all(sum(len(paths_of(term)) for term in step[2]) < 2 for step in translation[5]):
        told.append(image(translation, first))
    return [machine for machine in told if machine[1] <= 16]


def or_too_many(call, machine):
    try:
        return call(machine)
    except TooMany:
        return "too many"


class MachinesPassedOn(Case):
    def test_machines_that_translations_come_to(self):
        for chance, translation, _, first, second in drawn(range(120)):
            for machine in made_of(translation, first, second):
                self.as_its_least_form(chance, machine)

    def as_its_least_form(self, chance, machine):
        """What is told of the language is told of the least form in the same way."""
        self.assertIsNone(check_machine(machine))
        form = least(machine)
        self.same(least(form), form)
        for call in (first_words, partings, first_word, lengths, is_endless, degree, doubling, letter_classes, mergings):
            self.same(call(machine), call(form))
        for call in (actions, turning_word, reset_word):
            self.same(or_too_many(call, machine), or_too_many(call, form))
        for k in (0, 1, 2, 5):
            self.same((count(machine, k), word_at(machine, k)), (count(form, k), word_at(form, k)))
        word = chance.word(machine[0], 2, 1000)
        self.same((next_word(machine, word), words_before(machine, word)), (next_word(form, word), words_before(form, word)))
        for told, other in ((one_takes(machine, form), form), (both_take(machine, form), form), (not_taken(not_taken(machine)), form),
                            (backwards(backwards(machine)), form), (repeated(machine), repeated(form))):
            self.assertIsNone(compare(told, other))
        self.assertIsNone(compare(followed(machine, form), followed(form, machine)))
        self.assertEqual(two_runs(machine) is None, split_closes(machine, split_table(machine)))
        found = first_word(machine)
        if found is not None:
            self.assertEqual(first_run(machine, found) is None, ways(machine, found) == 0)
            self.assertGreater(ways(machine, found), 0)
        if machine[1] <= 4:
            expression = to_expression(machine)
            for length in range(3):
                told = chance.word(machine[0], length)
                self.assertIs(means(machine[0], expression, told), takes(machine, told))


class Shown(Case):
    def test_answers_about_machines(self):
        seen = {"none": 0, "some": 0, "same": 0, "unlike": 0}
        for chance, translation, _, first, second in drawn(range(80)):
            for machine in made_of(translation, first, second):
                seen["none" if first_word(machine) is None else "some"] += 1
                states = trap(machine)
                self.assertEqual(states is None, first_word(machine) is not None)
                self.assertTrue(states is None or is_trap(machine, states))
                self.assertTrue(holds_against(machine, first_words(machine), partings(machine)))
                other = one_takes(machine, machine) if machine[1] <= 8 and chance.random() < 0.5 else chance.machine(machine[0])
                word = compare(machine, other)
                seen["same" if word is None else "unlike"] += 1
                self.assertIs(closes(machine, other, table(machine, other)), word is None)
                self.assertIs(links_close(machine, other, links(machine, other)), word is None)
                self.assertTrue(word is None or takes(machine, word) != takes(other, word))
                word = within(machine, other)
                self.assertTrue(word is None or takes(machine, word) and not takes(other, word))
                told = doubling(machine)
                if told is not None:
                    u, v, w, x = told
                    self.assertTrue(v != w and len(v) == len(w))
                    for middle in ((), v, w, v + w, w + v + v):
                        self.assertIs(takes(machine, u + middle + x), True)
        self.assertGreater(min(seen.values()), 10, seen)

    def test_answers_about_translations(self):
        seen = {"agree": 0, "disagree": 0, "led": 0, "not led": 0}
        for chance, translation, other, first, second in drawn(range(200)):
            self.assertIsNone(check_translation(translation))
            other = chance.choice((other, translation))
            found, word = delays(translation, other), disagreement(translation, other)
            seen["disagree" if found is None else "agree"] += 1
            self.assertEqual(found is None, word is not None)
            self.assertTrue(found is None or check_delays(translation, other, found))
            if word is not None:
                self.assertGreater(len(set(results(translation, word) + results(other, word))), 1)
            word = leads(translation, first, second)
            seen["led" if word is None else "not led"] += 1
            self.assertIs(check_lead(translation, first, second, lead_table(translation, first, second)), word is None)
            self.same(within(first, safe(translation, second)), word)
            if word is not None:
                self.assertTrue(takes(first, word) and not all(takes(second, result) for result in results(translation, word)))
            self.shown_by_doubt(translation, (word or ())[:2])
            self.shown_by_sources(translation, first)
            self.shown_same(translation, other)
        self.assertGreater(min(seen.values()), 10, seen)

    def shown_by_doubt(self, translation, word):
        told, sure = doubt(translation, word), certain(translation, word)
        self.assertEqual(told is None, sure is None)
        self.same(tuple(letter for piece in written(translation, word) for letter in piece), sure if sure is not None else certain_before(translation, word))
        if told is not None:
            for at, result in [pair for pair in told if pair is not None]:
                self.assertIn(result, results(translation, at))
                self.same((at[:len(word)], result[:len(sure)]), (word, sure))
            if told[1] is not None:
                self.assertNotEqual(told[0][1][:len(sure) + 1], told[1][1][:len(sure) + 1])

    def shown_by_sources(self, translation, machine):
        word = first_word(both_take(machine, domain(translation)))
        if word is not None:
            for result in results(translation, word)[:3]:
                found = source(translation, machine, result)
                self.assertLessEqual(word_key(translation[0], found), word_key(translation[0], word))
                self.assertIn(result, results(translation, found))
                self.assertIs(takes(machine, found), True)

    def shown_same(self, translation, other):
        doubles = [second_result(translation), second_result(other)]
        for told, double in zip((translation, other), doubles):
            self.assertTrue(double is None or len(results(told, double)) > 1)
        if doubles == [None, None]:
            word = same(translation, other)
            self.assertTrue(word is None or results(translation, word) != results(other, word))
        else:
            with self.refuses(NotSingle):
                same(translation, other)


def certain_before(translation, word):
    """What is certain at the longest beginning of the word at which there are results, or nothing."""
    told = [certain(translation, word[:at]) for at in range(len(word))]
    there = [letters for letters in told if letters is not None]
    return there[-1] if there else ()


class Unchanged(Case):
    def test_arguments_are_not_changed(self):
        # All that is passed is made of tuples; what is written out of it reads as before.
        for _, translation, other, first, second in drawn(range(20)):
            before = repr((translation, other, first, second))
            made_of(translation, first, second)
            leads(translation, first, second)
            delays(translation, other)
            self.assertEqual(repr((translation, other, first, second)), before)
            self.assertEqual(ast.literal_eval(before), (translation, other, first, second))
        self.assertEqual(EVENS[0], INTEGERS)


if __name__ == "__main__":
    unittest.main()

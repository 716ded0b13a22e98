"""Leading words into a language: [200], [201] and the interface of leading.py."""

import unittest

from guardwords.comparing import compare, within
from guardwords.errors import OtherKinds
from guardwords.forms import least
from guardwords.joining import both_take, not_taken, one_takes
from guardwords.leading import check_lead, lead_table, leads, safe
from guardwords.machines import check_machine, first_word, takes
from guardwords.translations import behind, domain, image, inverse, restricted
from tests import naive
from tests import naive_translations as translations
from tests.naive_translations import paths_of
from tests.support import COLOURS, INTEGERS, NUMBERED, Case, word_key
from tests.test_agreement import KINDS, TURNED, one_state, short_words

TRUE = ("true",)
EVEN = ("mod", 2, 0)
ODD = ("not", EVEN)
NEVER = ("and", EVEN, ("mod", 4, 1))
READ = ("read", ())
STAMPED = ("pair", ("always", "red"), ("plus", (), 1))
MARKED = (INTEGERS, NUMBERED, 2, (0,), ((0, ()), (1, (("pair", "blue", 0),))), ((0, EVEN, (STAMPED,), 0), (0, ODD, (), 1)))
ODD_SECONDS = (NUMBERED, 1, (0,), (0,), ((0, ("second", ODD), 0),))
LAST_EVEN = (INTEGERS, 2, (0,), (1,), ((0, TRUE, 0), (0, EVEN, 1)))
PARITY = (INTEGERS, 2, (0,), (0,), ((0, EVEN, 0), (0, ODD, 1), (1, EVEN, 1), (1, ODD, 0)))
ALL = (INTEGERS, 1, (0,), (0,), ((0, TRUE, 0),))
NOTHING = (INTEGERS, 1, (0,), (), ((0, TRUE, 0),))
COPY = one_state((TRUE, (READ,)))


def drawn(seeds):
    """A translation, and machines over its kind and its other kind; it often leads the one into the other."""
    for chance, kind, other in translations.drawn(seeds, kinds=KINDS):
        translation = chance.translation(kind, other, sizes=(0, 1, 1, 1, 2))
        first, second = chance.machine(kind, many=3), chance.machine(other, many=3)
        if chance.random() < 0.5:
            second = second[:3] + (tuple(range(second[1])), second[4] + tuple((p, TRUE, p) for p in range(second[1])))
        yield chance, translation, first, second


class Table(Case):
    def test_exactly_the_triples(self):
        for translation, first, second, wanted in (
            (MARKED, LAST_EVEN, ODD_SECONDS, ((0, 0, (0,)), (0, 1, (0,)), (1, 0, (0,)))),
            (MARKED, (INTEGERS, 1, (0,), (0,), ((0, ("=", 2), 0),)), ODD_SECONDS, ((0, 0, (0,)),)),
            (COPY, ALL, LAST_EVEN, ((0, 0, (0,)), (0, 0, (0, 1)))), (COPY, ALL, (INTEGERS, 2, (0,), (1,), ((0, EVEN, 1),)), ((0, 0, ()), (0, 0, (0,)), (0, 0, (1,)))),
            (COPY, LAST_EVEN, PARITY, ((0, 0, (0,)), (0, 0, (1,)), (0, 1, (0,)), (0, 1, (1,)))),
            (COPY, (INTEGERS, 2, (0, 1), (), ()), (INTEGERS, 3, (0, 2), (), ()), ((0, 0, (0, 2)), (0, 1, (0, 2)))),
            ((INTEGERS, INTEGERS, 1, (), (), ()), ALL, ALL, ()), (COPY, (INTEGERS, 1, (), (0,), ()), ALL, ()), (COPY, ALL, (INTEGERS, 1, (), (0,), ()), ((0, 0, ()),)),
            (one_state((NEVER, ()), (EVEN, (READ, ("plus", (), 1)))), ALL, PARITY, ((0, 0, (0,)), (0, 0, (1,)))),
            (one_state((NEVER, (READ,))), ALL, (INTEGERS, 2, (0,), (), ((0, TRUE, 1),)), ((0, 0, (0,)),)),
        ):
            self.same(lead_table(translation, first, second), wanted)

    def test_tuples_are_compared_element_by_element(self):
        second = (INTEGERS, 3, (0,), (0,), ((0, ("=", 0), 0), (0, ("=", 0), 1), (0, ("=", 1), 0), (0, ("=", 1), 2), (0, ("=", 2), 1)))
        self.same(lead_table(COPY, ALL, second), ((0, 0, ()), (0, 0, (0,)), (0, 0, (0, 1)), (0, 0, (0, 2)), (0, 0, (1,))))

    def test_by_chance(self):
        for chance, translation, first, second in drawn(range(200)):
            self.same(lead_table(translation, first, second), translations.lead_table(translation, first, second))


class Leads(Case):
    def test_edges(self):
        one_even = (INTEGERS, 2, (0,), (1,), ((0, EVEN, 1),))
        for translation, first, second, wanted in (
            (MARKED, LAST_EVEN, ODD_SECONDS, None), (MARKED, PARITY, ODD_SECONDS, None), (MARKED, one_even, ODD_SECONDS, None),
            (MARKED, not_taken(PARITY), ODD_SECONDS, (1,)), (COPY, ALL, ALL, None), (COPY, ALL, LAST_EVEN, ()), (COPY, LAST_EVEN, LAST_EVEN, None),
            (COPY, LAST_EVEN, PARITY, (1, 0)), (COPY, ALL, (INTEGERS, 1, (), (0,), ()), ()), (COPY, one_even, NOTHING, (0,)), (COPY, NOTHING, NOTHING, None),
            (one_state((TRUE, (("plus", (), 1),))), one_even, one_even, (0,)), (one_state((TRUE, (("plus", (), 2),))), one_even, one_even, None),
            (one_state(ends=((0, (3,)), (0, (4,)))), ALL, one_even, ()), (one_state(ends=((0, (6,)), (0, (4,)))), ALL, one_even, None),
            # A word without a result never speaks against it.
            (one_state((TRUE, (READ,)), ends=()), ALL, NOTHING, None), (one_state((EVEN, (READ,))), (INTEGERS, 2, (0,), (1,), ((0, ODD, 1),)), NOTHING, None),
            ((INTEGERS, INTEGERS, 1, (), ((0, ()),), ()), ALL, NOTHING, None),
        ):
            self.same(leads(translation, first, second), wanted)
            self.assertIs(check_lead(translation, first, second, lead_table(translation, first, second)), wanted is None)

    def test_the_first_word(self):
        second = (INTEGERS, 1, (0,), (0,), ((0, ("or", ("<", 4), (">", 9)), 0),))
        self.same(leads(COPY, ALL, second), (4,))
        self.same(leads(one_state((TRUE, (("minus", (), 0),))), ALL, second), (-4,))
        self.same(leads(one_state((("<", -6), (("minus", (), 1),)), (TRUE, ())), ALL, second), (-7,))
        self.same(leads(one_state((EVEN, (READ, ("plus", (), 5))), (ODD, ())), ALL, second), (0,))
        self.same(leads(one_state((EVEN, (READ, ("plus", (), 20))), (ODD, (("always", 0),))), ALL, second), (4,))
        two = (INTEGERS, 3, (0,), (2,), ((0, (">", 5), 1), (0, ("<", -6), 1), (1, ("=", 8), 2), (1, ("=", 9), 2), (0, ("=", 20), 2)))
        self.same(leads(COPY, two, second), (6, 8))
        self.same(leads(COPY, two[:4] + (two[4][1:],), second), (-7, 8))
        self.same(leads(one_state((TRUE, ())), two, NOTHING), (20,))

    def test_all_runs_and_all_results_count(self):
        forked = one_state((TRUE, (READ,)), (("=", 5), (("always", 0),)))
        self.same(leads(forked, ALL, (INTEGERS, 1, (0,), (0,), ((0, ("not", ("=", 0)), 0),))), (0,))
        self.same(leads(forked, (INTEGERS, 1, (0,), (0,), ((0, (">", 2), 0),)), (INTEGERS, 1, (0,), (0,), ((0, ("not", ("=", 0)), 0),))), (5,))
        # One way of the second machine is enough.
        self.same(leads(COPY, ALL, (INTEGERS, 2, (0, 1), (0, 1), ((0, EVEN, 0), (0, ODD, 1), (1, TRUE, 1), (0, EVEN, 1)))), None)

    def test_by_chance(self):
        seen = {}
        for chance, translation, first, second in drawn(range(300)):
            found = leads(translation, first, second)
            size = None if found is None else len(found)
            seen[size] = seen.get(size, 0) + 1

            def missed(word):
                return naive.taken(first, word) and not all(naive.taken(second, told) for told in translations.results(translation, word))

            if found is not None:
                self.assertTrue(missed(found))
            for word in short_words(chance, translation[0], 4 if found is None else min(4, len(found))):
                if found is not None and word_key(translation[0], word) >= word_key(translation[0], found):
                    break
                self.assertFalse(missed(word), word)
            self.assertIs(check_lead(translation, first, second, lead_table(translation, first, second)), found is None)
        self.assertTrue(all(seen[size] > 3 for size in (None, 0, 1, 2)), seen)


class Closes(Case):
    def test_edges(self):
        triples = lead_table(MARKED, LAST_EVEN, ODD_SECONDS)
        check = lambda told: check_lead(MARKED, LAST_EVEN, ODD_SECONDS, told)
        self.assertIs(check(triples), True)
        self.assertIs(check(triples[::-1]), True)
        self.assertIs(check(triples + triples), True)
        self.assertIs(check(triples[1:2] + triples), True)
        for at in range(3):
            self.assertIs(check(triples[:at] + triples[at + 1:]), False)
        self.assertIs(check(()), False)
        # One too many, with which it closes, and some with which it does not.
        self.assertIs(check(triples + ((1, 1, (0,)),)), False)
        self.assertIs(check(triples + ((1, 0, ()),)), True)
        self.assertIs(check(triples + ((0, 1, ()),)), False)
        self.assertIs(check(triples + ((0, 0, ()),)), False)

    def test_none(self):
        self.assertIs(check_lead((INTEGERS, INTEGERS, 1, (), ((0, ()),), ()), ALL, NOTHING, ()), True)
        self.assertIs(check_lead(COPY, (INTEGERS, 1, (), (0,), ()), NOTHING, ()), True)
        self.assertIs(check_lead(COPY, NOTHING, NOTHING, ()), False)
        self.assertIs(check_lead((INTEGERS, INTEGERS, 1, (), ((0, ()),), ()), ALL, NOTHING, ((0, 0, (0,)),)), False)

    def test_each_letter_counts(self):
        second = (INTEGERS, 2, (0,), (0, 1), ((0, ("not", ("=", 9)), 0), (0, ("=", 9), 1), (1, TRUE, 1)))
        self.assertIs(check_lead(COPY, ALL, second, ((0, 0, (0,)),)), False)
        self.assertIs(check_lead(COPY, ALL, second, ((0, 0, (0,)), (0, 0, (1,)))), True)
        self.assertIs(check_lead(one_state((("not", ("=", 9)), (READ,))), ALL, second, ((0, 0, (0,)),)), True)
        self.assertIs(check_lead(COPY, (INTEGERS, 1, (0,), (0,), ((0, EVEN, 0),)), second, ((0, 0, (0,)),)), True)
        self.assertIs(check_lead(one_state((TRUE, (("minus", (), 9),))), (INTEGERS, 1, (0,), (0,), ((0, EVEN, 0),)), second, ((0, 0, (0,)),)), False)

    def test_by_chance(self):
        seen = []
        for chance, translation, first, second in drawn(range(200)):
            table = list(lead_table(translation, first, second))
            for _ in range(5):
                triples = list(table)
                if triples and chance.random() < 0.4:
                    triples.pop(chance.randrange(len(triples)))
                if chance.random() < 0.5:
                    triples.append((chance.randrange(translation[2]), chance.randrange(first[1]),
                                    tuple(sorted(chance.sample(range(second[1]), chance.randint(0, second[1]))))))
                if triples and chance.random() < 0.3:
                    triples.append(triples[0])
                chance.shuffle(triples)
                seen.append(check_lead(translation, first, second, tuple(triples)))
                self.assertIs(seen[-1], translations.lead_closes(translation, first, second, triples))
                if seen[-1]:
                    self.assertIsNone(leads(translation, first, second))
        self.assertGreater(min(seen.count(True), seen.count(False)), 100)


class Safe(Case):
    def test_edges(self):
        told = safe(MARKED, ODD_SECONDS)
        self.same([takes(told, word) for word in ((), (2,), (2, 4), (2, 3), (3,), (3, 2), (2, 3, 4))], [True, True, True, False, False, True, True])
        self.assertIsNone(compare(safe(COPY, LAST_EVEN), LAST_EVEN))
        self.assertIsNone(compare(safe(one_state((TRUE, (READ,)), ends=()), NOTHING), ALL))
        self.assertIsNone(first_word(safe(one_state((TRUE, ())), NOTHING)))
        self.assertIsNone(compare(safe(one_state((EVEN, (READ,))), NOTHING), not_taken(domain(one_state((EVEN, (READ,)))))))
        self.assertIsNone(compare(safe(COPY, ALL), ALL))

    def test_by_chance(self):
        for chance, translation, first, second in drawn(range(150)):
            told = safe(translation, second)
            self.assertIsNone(check_machine(told))
            self.assertEqual(told[0], translation[0])
            for word in short_words(chance, translation[0], 3):
                wanted = all(naive.taken(second, result) for result in translations.results(translation, word))
                self.assertIs(takes(told, word), wanted)
            self.same(leads(translation, first, second), within(first, told))


class Refused(Case):
    def test_each_argument(self):
        colours, turned = (COLOURS, 1, (0,), (0,), ()), (TURNED, 1, (0,), (0,), ())
        painted = (INTEGERS, COLOURS, 1, (0,), ((0, ()),), ())
        for translation, first, second in (
            (COPY, colours, ALL), (COPY, ALL, colours), (painted, colours, colours), (painted, ALL, ALL), (painted, ALL, turned),
            (painted, turned, ALL), ((COLOURS, INTEGERS, 1, (0,), (), ()), turned, ALL),
        ):
            for call in (leads, lead_table, lambda *told: check_lead(*told, ())):
                with self.refuses(OtherKinds):
                    call(translation, first, second)
        for translation, machine in ((COPY, colours), (painted, ALL), (painted, turned), ((COLOURS, INTEGERS, 1, (0,), (), ()), colours)):
            with self.refuses(OtherKinds):
                safe(translation, machine)
        self.same(leads(painted, ALL, colours), None)


class PassedOn(Case):
    def test_returned_machines_translations_and_tables(self):
        seen = [0, 0]
        for chance, translation, first, second in drawn(range(150)):
            other = one_takes(second, both_take(second, second))
            told = restricted(translation, first)
            if other[1] > 16 or told[2] > 9:
                continue
            found = leads(told, first, other)
            seen[found is None] += 1
            self.same(found, leads(translation, first, second))
            table = lead_table(told, first, other)
            self.assertIs(check_lead(told, first, other, table), found is None)
            self.same(table, translations.lead_table(told, first, other))
            back = inverse(translation, second)
            if back[1] <= 16:
                self.same(first_word(both_take(first, not_taken(safe(translation, second)))), found)
                self.assertIsNone(within(both_take(domain(translation), safe(translation, second)), back))
            if all(sum(len(paths_of(term)) for term in step[2]) <= 1 for step in translation[5]):
                made = image(translation, first)
                self.assertEqual(within(made, second) is None, found is None)
                if made[1] <= 16:
                    self.assertIsNone(leads(translation, first, made))
        self.assertGreater(min(seen), 10)

    def test_one_behind_another(self):
        for chance, translation, first, second in drawn(range(150)):
            if translation[0] == translation[1]:
                twice = behind(translation, translation)
                self.same(least(safe(twice, first)), least(safe(translation, safe(translation, first))))

    def test_the_same_question_has_the_same_answer(self):
        asked = [told[1:] for told in drawn(range(40))]
        before = [(leads(*told), lead_table(*told)) for told in asked]
        self.same([(leads(*told), lead_table(*told)) for told in asked[::-1]][::-1], before)


if __name__ == "__main__":
    unittest.main()

"""Machines and translations made from translations: [182], [183], [184] and the interface of translations.py."""

import unittest
from itertools import product

from guardwords.comparing import compare
from guardwords.errors import NotPlain, OtherKinds
from guardwords.forms import least
from guardwords.joining import both_take, one_takes
from guardwords.machines import check_machine, first_word, takes
from guardwords.translations import behind, check_translation, domain, image, inverse, restricted, results, source
from tests import naive
from tests import naive_translations as translations
from tests.naive_translations import SMALL_KINDS, Writer, first_key, paths_of
from tests.support import COLOURS, INTEGERS, NUMBERED, Case, letters_near, word_key

TRUE = ("true",)
EVEN = ("mod", 2, 0)
ODD = ("not", EVEN)
NEVER = ("and", EVEN, ("mod", 4, 1))
READ = ("read", ())
TURNED = ("names", ("blue", "red"))
LAST_EVEN = (INTEGERS, 2, (0,), (1,), ((0, TRUE, 0), (0, EVEN, 1)))
ALL = (INTEGERS, 1, (0,), (0,), ((0, TRUE, 0),))
NOTHING = (INTEGERS, 2, (0,), (1,), ((0, EVEN, 0), (0, NEVER, 1)))
NO_STARTS = (INTEGERS, INTEGERS, 2, (), ((0, ()),), ((0, TRUE, (READ,), 1),))
NO_ENDS = (INTEGERS, INTEGERS, 2, (0,), (), ((0, TRUE, (READ,), 1),))
NO_STEPS = (INTEGERS, INTEGERS, 1, (0,), ((0, (4, 5)), (0, ())), ())
TWICE = (INTEGERS, INTEGERS, 1, (0,), ((0, ()),), ((0, TRUE, (READ, READ), 0),))
SILENT = (INTEGERS, INTEGERS, 2, (0,), ((1, (3,)),), ((0, EVEN, (), 0), (0, ODD, (READ, ("always", 7)), 1), (1, TRUE, (), 1)))


def is_plain(translation):
    return all(sum(len(paths_of(term)) for term in step[2]) <= 1 for step in translation[5])


class Told(Case):
    def well_formed(self, machine, kind, bound):
        self.assertIsNone(check_machine(machine))
        self.assertEqual(machine[0], kind)
        self.assertTrue(1 <= machine[1] <= bound, machine[1])
        for states in machine[2:4]:
            self.assertEqual(list(states), sorted(set(states)))
            self.assertTrue(all(0 <= state < machine[1] for state in states))
        self.assertTrue(all(0 <= p < machine[1] and 0 <= q < machine[1] for p, _, q in machine[4]))

    def translation_formed(self, translation, kinds, bound):
        self.assertIsNone(check_translation(translation))
        self.assertEqual(translation[:2], kinds)
        many = translation[2]
        self.assertTrue(1 <= many <= bound, many)
        self.assertEqual(list(translation[3]), sorted(set(translation[3])))
        self.assertEqual(len(translation[4]), len(set(translation[4])))
        states = list(translation[3]) + [p for p, _ in translation[4]] + [p for step in translation[5] for p in (step[0], step[3])]
        self.assertTrue(all(0 <= state < many for state in states))


def short_words(chance, kind, reach=3, most=7):
    """All words of up to 3 letters over some of the letters near."""
    letters = letters_near(kind, reach)
    if len(letters) > most:
        letters = sorted(chance.sample(letters, most), key=first_key(kind))
    return [word for length in range(4) for word in product(letters, repeat=length)]


def drawn(seeds):
    """Two translations one behind the other, a machine for each kind, and words over the first kind."""
    for chance, kind, other in translations.drawn(seeds):
        third = chance.choice(SMALL_KINDS)
        first, second = chance.translation(kind, other), chance.translation(other, third)
        yield chance, first, second, chance.machine(kind, many=3), chance.machine(other, many=3)


class Edges(Told):
    def test_without_starts_ends_or_steps(self):
        for translation in (NO_STARTS, NO_ENDS, NO_STEPS):
            self.well_formed(domain(translation), INTEGERS, translation[2])
            told = restricted(translation, LAST_EVEN)
            self.translation_formed(told, (INTEGERS, INTEGERS), translation[2] * 2)
            self.well_formed(inverse(translation, LAST_EVEN), INTEGERS, translation[2] * 2)
            self.translation_formed(behind(translation, translation), (INTEGERS, INTEGERS), translation[2] ** 2)
            self.well_formed(image(translation, ALL), INTEGERS, 80)
        for translation in (NO_STARTS, NO_ENDS):
            self.assertIsNone(first_word(domain(translation)))
            self.assertIsNone(first_word(image(translation, ALL)))
            self.assertIsNone(first_word(inverse(translation, ALL)))
            self.assertIsNone(source(translation, ALL, ()))
            self.same([results(behind(translation, NO_STEPS), word) for word in ((), (1,))], [(), ()])
        self.same((first_word(domain(NO_STEPS)), first_word(inverse(NO_STEPS, LAST_EVEN)), source(NO_STEPS, ALL, (4, 5))), ((), None, ()))
        self.same([takes(image(NO_STEPS, ALL), word) for word in ((), (4,), (4, 5), (5, 4), (4, 5, 5))], [True, False, True, False, False])
        self.assertIsNone(first_word(image(NO_STEPS, LAST_EVEN)))
        self.same(results(restricted(NO_STEPS, LAST_EVEN), ()), ())

    def test_machines_without_words(self):
        for translation in (TWICE, SILENT, NO_STEPS):
            for machine in (NOTHING, (INTEGERS, 1, (), (0,), ()), (INTEGERS, 1, (0,), (), ((0, TRUE, 0),))):
                self.assertIsNone(first_word(inverse(translation, machine)))
                self.assertIsNone(source(translation, machine, ()))
                self.assertIsNone(first_word(domain(restricted(translation, machine))))
        self.assertIsNone(first_word(image(SILENT, NOTHING)))

    def test_steps_that_write_nothing_and_two_letters(self):
        told = image(SILENT, ALL)
        self.same([takes(told, word) for word in ((1, 7, 3), (2, 7, 3), (1, 7), (1, 3), (), (-5, 7, 3), (1, 7, 4), (1, 7, 3, 3))],
                  [True, False, False, False, False, True, False, False])
        self.same(least(told), least(image(SILENT, (INTEGERS, 2, (0,), (1,), ((0, ODD, 1),)))))
        self.same((first_word(domain(SILENT)), source(SILENT, LAST_EVEN, (3, 7, 3)), source(SILENT, ALL, (2, 7, 3))), ((1,), (3, 0), None))
        self.same(results(behind(SILENT, TWICE), (2, 1, 4)), ((1, 1, 7, 7, 3, 3),))
        self.same(results(behind(TWICE, SILENT), (1,)), ((1, 7, 3),))
        self.same(results(behind(TWICE, SILENT), (2,)), ())
        self.same([first_word(inverse(SILENT, LAST_EVEN)), first_word(inverse(TWICE, LAST_EVEN))], [None, (0,)])

    def test_behind_keeps_the_place_of_what_is_written(self):
        order = (INTEGERS, NUMBERED, 1, (0,), ((0, (("pair", "blue", 9),)),),
                 ((0, TRUE, (("pair", ("always", "red"), READ), ("pair", ("always", "blue"), ("minus", (), 0))), 0),))
        taken = (NUMBERED, INTEGERS, 1, (0,), ((0, (100,)),), ((0, ("first", ("is", "red")), (("read", ("second",)),), 0),
                                                         (0, ("first", ("is", "blue")), (("plus", ("second",), 20), ("always", -1)), 0)))
        self.same(results(behind(order, taken), (3, 4)), ((3, 17, -1, 4, 16, -1, 29, -1, 100),))
        self.same(results(behind(order, taken), ()), ((29, -1, 100),))
        self.assertTrue(is_plain(taken))
        self.assertFalse(is_plain(order))

    def test_behind_leaves_out_ways_that_no_letter_takes(self):
        some = (INTEGERS, ("maybe", INTEGERS), 1, (0,), ((0, ()),), ((0, EVEN, (("some", READ),), 0), (0, ODD, (("always", ("none",)),), 0)))
        parts = (("maybe", INTEGERS), INTEGERS, 1, (0,), ((0, ()),), ((0, ("some", TRUE), (("read", ("some",)),), 0), (0, ("none",), (("always", 5),), 0)))
        self.same(results(behind(some, parts), (2, 3, 4)), ((2, 5, 4),))
        never = (INTEGERS, ("maybe", INTEGERS), 1, (0,), ((0, ()),), ((0, TRUE, (("always", ("none",)),), 0),))
        only = (("maybe", INTEGERS), INTEGERS, 1, (0,), ((0, ()),), ((0, ("some", TRUE), (("read", ("some",)),), 0),))
        self.same([results(behind(never, only), word) for word in ((), (1,))], [((),), ()])

    def test_sources(self):
        several = (INTEGERS, INTEGERS, 1, (0,), ((0, ()),), ((0, TRUE, (("always", 1),), 0), (0, EVEN, (READ,), 0), (0, ODD, (), 0)))
        self.same([source(several, ALL, word) for word in ((), (1,), (2,), (3,), (1, 1), (4, 1))], [(), (0,), (2,), None, (0, 0), (4, 0)])
        self.same([source(several, LAST_EVEN, word) for word in ((), (1,), (2, 1))], [None, (0,), (2, 0)])
        odd_last = (INTEGERS, 2, (0,), (1,), ((0, TRUE, 0), (0, ODD, 1)))
        self.same([source(several, odd_last, word) for word in ((), (1,), (2, 1), (2,))], [(1,), (1,), (2, 1), (2, 1)])
        self.same([source(TWICE, ALL, word) for word in ((3, 3), (3, 4), (3,), (), (-50, -50, 50, 50))], [(3,), None, None, (), (-50, 50)])
        self.same(source(TWICE, LAST_EVEN, (3, 3)), None)
        self.same(source(TWICE, LAST_EVEN, (3, 3, 4, 4, 5, 5, 50, 50)), (3, 4, 5, 50))

    def test_not_plain(self):
        for steps, number in (
            (((0, TRUE, (READ, READ), 0),), 0), (((0, TRUE, (READ,), 0), (0, TRUE, (READ, ("plus", (), 1)), 0), (0, TRUE, (READ, READ), 0)), 1),
            (((0, TRUE, (("always", 1), ("always", 2)), 0), (0, NEVER, (READ, ("minus", (), 1)), 0)), 1),
        ):
            translation = (INTEGERS, INTEGERS, 1, (0,), ((0, ()),), steps)
            with self.refuses(NotPlain):
                image(translation, ALL)
            with self.assertRaises(NotPlain) as caught:
                image(translation, ALL)
            self.same(caught.exception.step, number)
        paired = (INTEGERS, ("pair", INTEGERS, INTEGERS), 1, (0,), ((0, ()),), ((0, TRUE, (("pair", READ, READ),), 0),))
        with self.refuses(NotPlain):
            image(paired, NOTHING)
        with self.refuses(OtherKinds):
            image(TWICE, (COLOURS, 1, (0,), (0,), ()))

    def test_other_kinds(self):
        turned = (TURNED, 1, (0,), (0,), ())
        colours = (COLOURS, 1, (0,), (0,), ())
        painted = (COLOURS, INTEGERS, 1, (0,), ((0, ()),), ())
        for call in (lambda: restricted(painted, turned), lambda: image(painted, turned), lambda: source(painted, turned, ()),
                     lambda: restricted(painted, LAST_EVEN), lambda: image(painted, LAST_EVEN), lambda: source(painted, LAST_EVEN, ()),
                     lambda: inverse(painted, colours), lambda: inverse(TWICE, colours), lambda: behind(painted, painted),
                     lambda: behind((COLOURS, TURNED, 1, (0,), (), ()), painted), lambda: behind(TWICE, painted)):
            with self.refuses(OtherKinds):
                call()
        self.same(results(behind(painted, TWICE), ()), ((),))
        self.same(first_word(image(painted, colours)), ())
        self.same(first_word(inverse(painted, ALL)), ())


class ByChance(Told):
    def test_domain(self):
        for chance, first, _, _, _ in drawn(range(60)):
            told = domain(first)
            self.well_formed(told, first[0], first[2])
            for word in short_words(chance, first[0]):
                self.assertIs(takes(told, word), translations.results(first, word) != ())

    def test_restricted(self):
        for chance, first, _, machine, _ in drawn(range(60)):
            told = restricted(first, machine)
            self.translation_formed(told, first[:2], first[2] * machine[1])
            self.assertTrue(is_plain(told) or not is_plain(first))
            for word in short_words(chance, first[0], most=5):
                self.same(results(told, word), translations.results(first, word) if naive.taken(machine, word) else ())

    def test_inverse(self):
        for chance, first, _, _, machine in drawn(range(60)):
            told = inverse(first, machine)
            self.well_formed(told, first[0], first[2] * machine[1])
            for word in short_words(chance, first[0], most=5):
                wanted = any(naive.taken(machine, result) for result in translations.results(first, word))
                self.assertIs(takes(told, word), wanted)

    def test_behind(self):
        plain = 0
        for chance, first, second, _, _ in drawn(range(80)):
            told = behind(first, second)
            self.translation_formed(told, (first[0], second[1]), first[2] * second[2])
            if is_plain(first) and is_plain(second):
                plain += 1
                self.assertTrue(is_plain(told))
            for word in short_words(chance, first[0], most=5):
                wanted = {one for result in translations.results(first, word) for one in translations.results(second, result)}
                self.same(results(told, word), tuple(sorted(wanted, key=lambda one: word_key(second[1], one))))
        self.assertGreater(plain, 15)

    def test_image_and_source(self):
        done = 0
        for chance, first, _, machine, _ in drawn(range(90)):
            sources = {}
            for word in short_words(chance, first[0]):
                if naive.taken(machine, word):
                    for result in translations.results(first, word):
                        sources.setdefault(result, word)
            told = image(first, machine) if is_plain(first) else None
            if told is not None:
                self.well_formed(told, first[1], 80)
                done += 1
            for result in list(sources)[:30]:
                self.assertTrue(told is None or takes(told, result))
                found = source(first, machine, result)
                self.assertLessEqual(word_key(first[0], found), word_key(first[0], sources[result]))
                self.goes(first, machine, found, result)
            for _ in range(10):
                result = chance.word(first[1], chance.randint(0, 3), 2)
                found = source(first, machine, result)
                if told is not None:
                    self.assertIs(takes(told, result), found is not None)
                if found is None:
                    self.assertNotIn(result, sources)
                else:
                    self.goes(first, machine, found, result)
        self.assertGreater(done, 30)

    def goes(self, translation, machine, word, result):
        self.assertTrue(naive.taken(machine, word))
        self.assertIn(result, translations.results(translation, word))

    def test_bounds_of_the_image(self):
        for seed in range(40):
            chance = Writer(seed, 2)
            kind, other = chance.choice(SMALL_KINDS), chance.choice(SMALL_KINDS)
            size = 3
            steps = tuple((p % 3, TRUE, (chance.term(kind, other, 1), ("always", chance.letter(other))), (p * seed) % 3)
                          for p in range(5))
            steps = tuple(step for step in steps if None not in [translations.gives(term, a) for term in step[2] for a in letters_near(kind, 2)])
            ends = tuple((p, chance.word(other, 2)) for p in (0, 1, 2, 2))
            translation = (kind, other, size, (0, 1, 2), tuple(dict.fromkeys(ends)), steps)
            machine = (kind, 4, (0, 1), (0, 1, 2, 3), tuple((p % 4, TRUE, (p + seed) % 4) for p in range(6)))
            self.well_formed(image(translation, machine), other, 80)

    def test_joined_in_another_order(self):
        for chance, first, second, machine, other in drawn(range(40)):
            self.assertIsNone(compare(domain(restricted(first, machine)), both_take(domain(first), machine)))
            self.assertIsNone(compare(inverse(first, domain(second)), domain(behind(first, second))))
            last = chance.machine(second[1], many=3)
            self.assertIsNone(compare(inverse(behind(first, second), last), inverse(first, inverse(second, last))))
            if is_plain(first):
                self.assertIsNone(compare(image(first, machine), image(restricted(first, machine), domain(first))))
                told = one_takes(machine, domain(first))
                self.assertIsNone(compare(image(first, told), one_takes(image(first, machine), image(first, domain(first)))))
                if is_plain(second):
                    self.assertIsNone(compare(image(behind(first, second), machine), image(second, image(first, machine))))


class PassedOn(Told):
    def test_returned_things_as_arguments(self):
        for chance, first, second, machine, other in drawn(range(60)):
            told = restricted(behind(first, second), machine)
            if told[2] > 9:
                continue
            word = first_word(domain(told))
            if word is None:
                self.assertIsNone(first_word(inverse(told, domain((second[1], first[0], 1, (0,), ((0, ()),), ((0, TRUE, (), 0),))))))
                continue
            found = results(told, word)[0]
            self.same(results(told, source(told, machine, found)), results(told, source(told, domain(told), found)))
            self.assertLessEqual(word_key(first[0], source(told, machine, found)), word_key(first[0], word))
            back = inverse(first, other)
            if back[1] <= 16:
                self.assertIsNone(compare(domain(restricted(first, back)), back))

    def test_the_same_question_has_the_same_answer(self):
        asked = [(first, second, machine, other) for _, first, second, machine, other in drawn(range(15))]
        before = [self.answers(*told) for told in asked]
        self.same([self.answers(*told) for told in asked[::-1]][::-1], before)

    def answers(self, first, second, machine, other):
        return (domain(first), restricted(first, machine), inverse(first, other), behind(first, second),
                image(first, machine) if is_plain(first) else None)


if __name__ == "__main__":
    unittest.main()

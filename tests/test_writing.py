"""What is certain of the results: [210], [211] and the interface of writing.py."""

import unittest

from guardwords.errors import BadLetter
from guardwords.machines import takes
from guardwords.translations import behind, domain, restricted, results
from guardwords.writing import certain, doubt, written
from tests import naive
from tests import naive_translations as translations
from tests.support import COLOURS, INTEGERS, NUMBERED, Case, letters_near, word_key
from tests.test_agreement import KINDS, LATE, SOON, one_state

TRUE = ("true",)
EVEN = ("mod", 2, 0)
ODD = ("not", EVEN)
NEVER = ("and", EVEN, ("mod", 4, 1))
READ = ("read", ())
COPY = one_state((TRUE, (READ,)))


def beginning(words):
    """The longest word with which all of the words begin."""
    words = list(words)
    many = 0
    while all(len(word) > many for word in words) and len({word[many] for word in words}) == 1:
        many += 1
    return words[0][:many]


class Certain(Case):
    def test_edges(self):
        for translation, word, wanted in (
            (LATE, (), (7,)), (LATE, (7,), (7,)), (LATE, (7, 7), (7, 7)), (LATE, (3,), None), (SOON, (), ()), (SOON, (3,), (7,)), (SOON, (4,), (4,)),
            (COPY, (), ()), (COPY, (4, -50), (4, -50)), (COPY, (50,), (50,)), (one_state((TRUE, (READ,)), ends=()), (), None),
            ((INTEGERS, INTEGERS, 1, (), ((0, (1,)),), ()), (), None), ((INTEGERS, INTEGERS, 1, (0,), ((0, (1, 2)),), ()), (), (1, 2)),
            ((INTEGERS, INTEGERS, 1, (0,), ((0, (1, 2)),), ()), (4,), None), (one_state(ends=((0, (1, 2)), (0, (1, 3)))), (), (1,)),
            (one_state(ends=((0, (1, 2)), (0, (1,)))), (), (1,)), (one_state(ends=((0, (1, 2)), (0, ()))), (), ()),
            (one_state((TRUE, (("always", 1),)), ends=((0, (1, 1)),)), (), (1, 1)), (one_state((TRUE, (("always", 1),)), ends=((0, (1, 1)),)), (5, 5), (1, 1, 1, 1)),
            (one_state((TRUE, (("always", 1),)), ends=((0, (1, 2)),)), (5,), (1, 1)), (one_state((EVEN, (READ,)), (ODD, ())), (1, 2, 3), (2,)),
            (one_state((EVEN, (READ,))), (1,), None), (one_state((EVEN, (READ,)), (("=", 4), (("always", 5),))), (2, 4, 2), (2,)),
            (one_state((NEVER, (("always", 5),)), ends=((0, (1, 2)),)), (), (1, 2)),
        ):
            self.same(certain(translation, word), wanted)

    def test_words_that_lead_to_one_result_alone(self):
        only = (INTEGERS, INTEGERS, 3, (0,), ((2, (9,)),), ((0, EVEN, (), 1), (0, ODD, (READ,), 1), (1, ("=", 4), (("minus", (), 1),), 2)))
        self.same([certain(only, word) for word in ((), (2,), (3,), (2, 4), (2, 5), (2, 4, 4))], [(), (-3, 9), (3, -3, 9), (-3, 9), None, None])

    def test_letters_that_are_the_same_for_all_that_follow(self):
        told = (INTEGERS, INTEGERS, 2, (0,), ((1, ()),), ((0, ("=", 3), (READ, ("plus", (), 1)), 1), (0, ("=", 5), (("minus", (), 8), ("always", 5)), 1)))
        self.same((certain(told, ()), certain(told, (3,)), certain(told, (5,))), ((3,), (3, 4), (3, 5)))
        pair = (NUMBERED, COLOURS, 2, (0,), ((1, ()),), ((0, ("first", ("is", "red")), (("read", ("first",)),), 1), (1, TRUE, (("always", "blue"),), 0)))
        self.same((certain(pair, ()), certain(pair, (("pair", "red", 4), ("pair", "blue", 1)))), (("red",), ("red", "blue", "red")))

    def test_dead_ends_do_not_count(self):
        told = (INTEGERS, INTEGERS, 3, (0,), ((1, (1,)),), ((0, EVEN, (("always", 4),), 1), (0, TRUE, (("always", 5),), 2), (2, TRUE, (("always", 5),), 2)))
        self.same([certain(told, word) for word in ((), (2,), (3,), (2, 2))], [(4, 1), (4, 1), None, None])
        # Several starts, of which one leads to no end.
        starts = told[:3] + ((0, 2),) + told[4:]
        self.same(certain(starts, ()), (4, 1))

    def test_circles(self):
        circle = (INTEGERS, INTEGERS, 3, (0,), ((1, (1, 2)),), ((0, TRUE, (("always", 1), ("always", 2)), 1), (1, EVEN, (("always", 1),), 2),
                                                             (2, TRUE, (("always", 2),), 1), (1, ODD, (("always", 1), ("always", 2)), 0)))
        self.same([certain(circle, word) for word in ((), (1,), (1, 2), (1, 3))], [(1, 2, 1, 2), (1, 2, 1, 2), (1, 2, 1, 2, 1, 2), (1, 2, 1, 2, 1, 2, 1, 2)])

    def test_by_chance(self):
        seen = {"none": 0, "empty": 0, "longer": 0}
        for chance, translation, word, told in drawn(range(250)):
            wanted = beginning(result for _, found in told for result in found) if told else None
            seen["none" if wanted is None else "longer" if len(wanted) > 1 else "empty"] += 1
            self.same(certain(translation, word), wanted)
        self.assertGreater(min(seen.values()), 40, seen)


def drawn(seeds):
    """A translation, a word, and the words that begin with it, up to some length, that have results, with these."""
    for chance, kind, other in translations.drawn(seeds, kinds=KINDS):
        translation = chance.translation(kind, other, most=chance.choice((0, 1)), sizes=(0, 1, 1, 1, 2))
        letters = letters_near(kind, translations.reach_of(translation))
        if len(letters) > 9:
            continue
        longest = 5 if len(letters) <= 3 else 3 if len(letters) <= 8 else 2
        for length in range(3):
            word = chance.word(kind, length)
            yield chance, translation, word, followers(translation, word, letters, longest)


def followers(translation, word, letters, longest):
    level, told = [(word, translations.runs(translation, word))], []
    for more in range(longest + 1):
        for at, states in level:
            found = {before + end for state, before in states for p, end in translation[4] if p == state}
            if found:
                told.append((at, sorted(found, key=lambda result: word_key(translation[1], result))))
        if more < longest:
            level = [(at + (a,), translations.moves(translation, states, a)) for at, states in level if states for a in letters]
    return told


class Doubt(Case):
    def test_edges(self):
        forked = one_state((EVEN, (READ,)), (ODD, (READ, READ)))
        for translation, word, wanted in (
            (SOON, (), (((0,), (0,)), ((1,), (7,)))), (SOON, (3,), (((3,), (7,)), None)), (LATE, (), (((7,), (7,)), None)), (LATE, (7,), (((7,), (7,)), None)),
            (LATE, (3,), None), (one_state(ends=()), (), None), (COPY, (), (((), ()), None)), (COPY, (5,), (((5,), (5,)), None)),
            (one_state(ends=((0, (1, 2)), (0, (1, 3)))), (), (((), (1, 2)), ((), (1, 3)))),
            # Results of different lengths: the one that ends is certain, or it shows that nothing more is.
            (one_state(ends=((0, (1, 2)), (0, (1,)))), (), (((), (1,)), None)), (one_state((TRUE, (("always", 1),)), ends=((0, (1, 1)),)), (), (((), (1, 1)), None)),
            (forked, (), (((), ()), None)), (forked[:4] + (((0, (4,)),),) + forked[5:], (), (((), (4,)), ((0,), (0, 4)))),
            (forked[:4] + (((0, (0,)),),) + forked[5:], (), (((), (0,)), ((1,), (1, 1, 0)))), (forked[:4] + (((0, (0,)),),) + forked[5:], (3,), (((3,), (3, 3, 0)), ((3, 1), (3, 3, 1, 1, 0)))),
        ):
            self.same(doubt(translation, word), wanted)

    def test_a_shorter_result_that_comes_later(self):
        told = (INTEGERS, INTEGERS, 3, (0,), ((1, (1, 2, 3)), (2, (1,))), ((0, TRUE, (), 1), (1, (">", 6), (), 2)))
        self.same(doubt(told, ()), (((0,), (1, 2, 3)), ((0, 7), (1,))))
        self.same(doubt(told, (4,)), (((4,), (1, 2, 3)), ((4, 7), (1,))))
        self.same(doubt(told, (4, 8)), (((4, 8), (1,)), None))

    def test_the_first_words_and_results(self):
        ends = ((0, (9,)), (0, (-9,)), (0, (9, 1)))
        told = one_state((EVEN, (("always", 9),)), ends=ends)
        self.same(doubt(told, ()), (((), (9,)), ((), (-9,))))
        self.same(doubt(told, (2,)), (((2,), (9, 9)), ((2,), (9, -9))))
        far = (INTEGERS, INTEGERS, 2, (0,), ((1, ()),), ((0, (">", 11), (("always", 1), READ), 1), (0, ("=", -12), (("always", 1),), 1)))
        self.same(doubt(far, ()), (((12,), (1, 12)), ((-12,), (1,))))
        self.same(doubt(far[:5] + (far[5][:1],), ()), (((12,), (1, 12)), ((13,), (1, 13))))

    def test_many_results_are_not_gone_through(self):
        steps = [(TRUE, (("plus", (), k), ("minus", (), k))) for k in range(5)]
        told = one_state(*steps, ends=((0, (5, 5)), (0, (5, 6))))
        word = (1, -2, 3, -4, 5, -6, 7, -50)
        first, second = doubt(told, word)
        self.same(certain(told, word), ())
        self.same(first, (word, (1, -1, 0, 4, 3, -3, 0, 8, 5, -5, -2, 10, 7, -7, -46, 54, 5, 5)))
        self.same(second[0], word)
        self.same(second[1][:2], (2, 0))

    def test_by_chance(self):
        seen = {"none": 0, "alone": 0, "two": 0}
        for chance, translation, word, told in drawn(range(250)):
            found = doubt(translation, word)
            if not told:
                seen["none"] += 1
                self.assertIsNone(found)
                continue
            sure = certain(translation, word)
            first = (told[0][0], told[0][1][0])
            if first[1] == sure:
                seen["alone"] += 1
                self.same(found, (first, None))
                continue
            seen["two"] += 1
            front = first[1][:len(sure) + 1]
            second = next((at, result) for at, results_there in told for result in results_there if result[:len(front)] != front)
            self.same(found, (first, second))
        self.assertGreater(min(seen.values()), 40, seen)


class Written(Case):
    def test_edges(self):
        for translation, word, wanted in (
            (LATE, (7, 7), ((7,), (), (7,))), (LATE, (7, 3), ((7,), ())), (LATE, (3, 7), ((7,),)), (SOON, (3,), ((), (7,))), (COPY, (), ((),)),
            (COPY, (1, 2), ((), (1,), (2,))), (one_state(ends=()), (), ()), (one_state(ends=()), (1, 2), ()),
            ((INTEGERS, INTEGERS, 1, (0,), ((0, (1, 2)),), ()), (), ((1, 2),)), ((INTEGERS, INTEGERS, 1, (0,), ((0, (1, 2)),), ()), (4, 4), ((1, 2),)),
            (one_state((TRUE, (("always", 1),)), ends=((0, (1, 1)),)), (5, -50), ((1, 1), (1,), (1,))),
        ):
            self.same(tuple(written(translation, word)), wanted)

    def test_it_is_a_generator(self):
        told = written(COPY, (1, 2))
        self.assertIs(iter(told), told)
        self.same([next(told), next(told), next(told), next(told, "over"), next(told, "over")], [(), (1,), (2,), "over", "over"])

    def test_two_in_turn_and_one_that_is_left(self):
        one, other, left = written(COPY, (1, 2, 3)), written(LATE, (7, 7)), written(SOON, (2, 3))
        self.same([next(one), next(other), next(left), next(one), next(other), next(one), next(other)], [(), (7,), (), (1,), (), (2,), (7,)])
        self.same((tuple(one), tuple(other)), (((3,),), ()))
        self.same(tuple(written(SOON, (2, 3))), ((), (2,), (3,)))

    def test_bad_letters_when_the_first_element_is_asked_for(self):
        for translation in (COPY, LATE, one_state(ends=()), (INTEGERS, INTEGERS, 1, (), (), ())):
            for word in (("red",), (7, "red"), (3, 3, ("none",)), (7, 7, 7, 7, 7, 7, 7, ("some", 7))):
                for call in (certain, doubt, lambda *told: next(written(*told), None)):
                    with self.refuses(BadLetter):
                        call(translation, word)

    def test_by_chance(self):
        early = 0
        for chance, translation, _, _ in drawn(range(200)):
            word = chance.word(translation[0], chance.randint(0, 5))
            pieces = tuple(written(translation, word))
            early += len(pieces) <= len(word)
            self.assertLessEqual(len(pieces), len(word) + 1)
            for at in range(len(word) + 1):
                told = certain(translation, word[:at])
                self.assertEqual(told is None, at >= len(pieces))
                if told is not None:
                    self.same(tuple(letter for piece in pieces[:at + 1] for letter in piece), told)
        self.assertGreater(early, 40)


class PassedOn(Case):
    def test_far_letters(self):
        for word in ((50, -50), (-50,), (50, 50, 50, 50, -50, -50, -50, -50)):
            self.same(certain(COPY, word), word)
            self.same(doubt(COPY, word), ((word, word), None))
            self.same(tuple(written(COPY, word)), ((),) + tuple((letter,) for letter in word))

    def test_returned_translations(self):
        for chance, translation, word, _ in drawn(range(120)):
            other = restricted(translation, chance.machine(translation[0], many=3))
            self.check(other, word)
            if translation[0] == translation[1]:
                self.check(behind(translation, translation), word)

    def check(self, translation, word):
        if translation[2] > 9:
            return
        told = doubt(translation, word)
        self.assertEqual(told is None, certain(translation, word) is None)
        if told is None:
            return
        (at, result), second = told
        self.same(results(translation, at)[0], result)
        self.assertTrue(takes(domain(translation), at))
        self.same(at[:len(word)], word)
        sure = certain(translation, word)
        self.same(result[:len(sure)], sure)
        if second is None:
            self.same(result, sure)
        else:
            self.assertIn(second[1], results(translation, second[0]))
            self.same(second[1][:len(sure)], sure)
            self.assertNotEqual(second[1][:len(sure) + 1], result[:len(sure) + 1])
            self.same(second[0][:len(word)], word)
        self.assertTrue(naive.taken(translations.domain_machine(translation), at))
        self.same(certain(translation, at)[:len(sure)], sure)

    def test_the_same_question_has_the_same_answer(self):
        asked = [(translation, word) for _, translation, word, _ in drawn(range(40))]
        before = [(certain(*told), doubt(*told), tuple(written(*told))) for told in asked]
        self.same([(certain(*told), doubt(*told), tuple(written(*told))) for told in asked[::-1]][::-1], before)


if __name__ == "__main__":
    unittest.main()

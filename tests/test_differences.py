"""First words with unlike results: [190], [192], [193] and the interface of differences.py."""

import unittest

from guardwords.agreement import delays
from guardwords.comparing import compare
from guardwords.differences import disagreement, same, second_result
from guardwords.errors import NotSingle, OtherKinds
from guardwords.translations import behind, domain, restricted, results
from tests import naive_translations as naive
from tests.support import COLOURS, INTEGERS, Case, word_key
from tests.test_agreement import HELD, LATE, ODD, SOON, TURNED, drawn, one_state, short_words

TRUE = ("true",)
EVEN = ("mod", 2, 0)
NEVER = ("and", EVEN, ("mod", 4, 1))
READ = ("read", ())
DOUBLED = ("pair", INTEGERS, INTEGERS)
COPY = one_state((TRUE, (READ,)))


def circle(size, at, told):
    """A circle of states that copies; from one of them another letter is written. All states end."""
    steps = [(p, TRUE, (told if p == at else READ,), (p + 1) % size) for p in range(size)]
    return (INTEGERS, INTEGERS, size, (0,), tuple((p, ()) for p in range(size)), tuple(steps))


class Drawn(Case):
    def first_of(self, chance, kind, found, is_wanted, length=4):
        """The word found is wanted, and no word before it."""
        if found is not None:
            self.assertTrue(is_wanted(found))
        for word in short_words(chance, kind, length if found is None else min(length, len(found))):
            if found is not None and word_key(kind, word) >= word_key(kind, found):
                break
            self.assertFalse(is_wanted(word), word)


class Disagreement(Drawn):
    def both_ways(self, first, second, wanted):
        self.same((disagreement(first, second), disagreement(second, first)), (wanted, wanted))
        self.assertEqual(delays(first, second) is None, wanted is not None)

    def test_edges(self):
        self.both_ways(LATE, SOON, None)
        self.both_ways(HELD, SOON, (0,))
        self.both_ways(COPY, COPY, None)
        self.both_ways(one_state(ends=()), COPY, None)
        self.both_ways((INTEGERS, INTEGERS, 1, (), ((0, (4,)),), ()), COPY, None)
        self.both_ways(COPY, one_state(ends=((0, (1,)),)), ())
        self.both_ways(one_state(ends=((0, (1,)),)), one_state(ends=((0, (1,)), (0, (2,)))), ())

    def test_the_first_letter(self):
        for steps, wanted in (
            ((TRUE, (("plus", (), 1),)), (0,)), ((TRUE, (("minus", (), 0),)), (1,)), ((TRUE, (("always", 0),)), (1,)),
            ((("<", -3), (("always", -4),)), (-5,)), ((("mod", 3, 2), (("minus", (), 4),)), (-1,)), ((("mod", 3, 2), (("always", 2),)), (-1,)),
            ((NEVER, (("always", 2),)), None), ((TRUE, (READ,)), None), ((("=", 4), (("minus", (), 8),)), None),
        ):
            self.both_ways(COPY, one_state(steps), wanted)

    def test_two_parts_of_one_letter(self):
        left = one_state((TRUE, (("read", ("first",)),)), kind=DOUBLED)
        for condition, wanted in ((TRUE, ("pair", 0, 1)), (("second", ("=", 0)), ("pair", 1, 0)), (("first", ("=", 2)), ("pair", 2, 0))):
            right = one_state((condition, (("plus", ("second",), 0),)), kind=DOUBLED)
            self.both_ways(left, right, (wanted,))

    def test_unlike_letters_of_two_places(self):
        # The first one writes the first letter, the second one the second letter.
        front = (INTEGERS, INTEGERS, 3, (0,), ((2, ()),), ((0, TRUE, (READ,), 1), (1, TRUE, (), 2)))
        rear = (INTEGERS, INTEGERS, 3, (0,), ((2, ()),), ((0, TRUE, (), 1), (1, TRUE, (READ,), 2)))
        self.both_ways(front, rear, (0, 1))
        self.both_ways(front, rear[:5] + (((0, (">", 2), (), 1), (1, TRUE, (READ,), 2)),), (3, 0))
        self.both_ways(front, rear[:5] + (((0, ("=", 0), (), 1), (1, EVEN, (READ,), 2)),), (0, 2))
        self.both_ways(front, rear[:5] + (((0, TRUE, (), 1), (1, ("=", 0), (READ,), 2)),), (1, 0))
        self.both_ways(front, rear[:5] + (((0, ("=", 5), (), 1), (1, ("=", 5), (READ,), 2)),), None)
        self.both_ways(front, (INTEGERS, INTEGERS, 3, (0,), ((2, (3,)),), ((0, ("or", ("=", 3), ("=", 8)), (), 1), (1, ODD, (), 2))), (8, 1))

    def test_what_is_left_over_beside_terms_that_part(self):
        # The first letter of the first step tells nothing; a later one parts, or leaves another letter over.
        line = ((1, TRUE, (("always", 7),), 2),)
        first = (INTEGERS, INTEGERS, 3, (0,), ((2, ()),), ((0, TRUE, (READ,), 1),) + line)
        second = (INTEGERS, INTEGERS, 3, (0,), ((2, ()),), ((0, TRUE, (("minus", (), 0), ("always", 7)), 1), (1, TRUE, (), 2)))
        self.both_ways(first, second, (1, 0))
        for terms, wanted in (((READ, ("plus", (), 7)), (1, 0)), ((READ, ("always", 7)), None), ((("always", 0), ("always", 7)), (1, 0)),
                              ((READ, ("minus", (), 7)), (1, 0)), ((READ, ("plus", (), 8)), (0, 0))):
            self.both_ways(first, second[:5] + (((0, TRUE, terms, 1), (1, TRUE, (), 2)),), wanted)
        behind_five = second[:5] + (((0, ("or", ("=", 0), (">", 5)), (READ, ("plus", (), 7)), 1), (1, TRUE, (), 2)),)
        self.both_ways(first, behind_five, (6, 0))

    def test_results_that_differ_in_their_length_alone(self):
        fives = one_state((TRUE, (("always", 5),)))
        self.both_ways(fives, one_state((TRUE, (("always", 5), ("always", 5)))), (0,))
        self.both_ways(fives, one_state((TRUE, (("always", 5),)), ends=((0, (5,)),)), ())
        long_way = (INTEGERS, INTEGERS, 3, (0,), ((0, ()), (1, ()), (2, ())), ((0, TRUE, (("always", 5),), 1), (1, TRUE, (("always", 5),), 2),
                                                                           (2, ("<", -6), (("always", 5), ("always", 5)), 2)))
        self.both_ways(fives, long_way, (0, 0, -7))

    def test_circles_that_are_alike_for_a_while(self):
        for size, other in ((2, 3), (3, 2), (3, 3)):
            for at in range(size):
                told = circle(size, at, ("minus", (), 0))
                self.both_ways(told, circle(other, 0, READ), (0,) * at + (1,))
        first = circle(3, 2, ("always", 1))
        second = circle(2, 1, ("always", 1))
        self.both_ways(first, second, (0, 0))
        slow, fast = circle(3, 2, ("always", 0)), circle(2, 1, ("always", 0))
        self.both_ways(slow, fast, (0, 1))
        # Where only zeros are read, the places of both come together without a difference.
        self.both_ways(one_state((("=", 0), (READ,))), circle(3, 2, ("always", 0)), None)

    def test_long_words(self):
        # Ends meet behind 5 letters, and again behind 6 more: only then the second letters differ.
        line = [(p, TRUE, (), (p + 1) % 3) for p in range(3)]
        first = (INTEGERS, INTEGERS, 3, (0,), ((2, ()),), tuple(line))
        second = (INTEGERS, INTEGERS, 2, (0,), ((1, ()),), ((0, TRUE, (), 1), (1, TRUE, (), 0)))
        self.both_ways(first, second, None)
        writing = first[:5] + (((0, TRUE, (), 1), (1, TRUE, (), 2), (2, TRUE, (("always", 1),), 0)),)
        self.both_ways(writing, second, (0,) * 5)
        two = (INTEGERS, INTEGERS, 2, (0,), ((1, (1,)),), ((0, TRUE, (), 1), (1, TRUE, (), 0)))
        self.both_ways(writing, two, (0,) * 11)

    def test_dead_ends_do_not_count(self):
        ahead = (INTEGERS, INTEGERS, 3, (0,), ((1, ()),), ((0, EVEN, (READ,), 1), (0, ODD, (READ,), 2), (2, TRUE, (READ,), 2)))
        other = (INTEGERS, INTEGERS, 3, (0,), ((1, ()),), ((0, EVEN, (READ,), 1), (0, ODD, (), 2), (2, TRUE, (("always", 1),), 2)))
        self.both_ways(ahead, other, None)
        self.both_ways(ahead[:4] + (((1, ()), (2, ())),) + ahead[5:], other[:4] + (((1, ()), (2, ())),) + other[5:], (1,))

    def test_by_chance(self):
        seen = {}
        for chance, first, second in drawn(range(300)):
            found = disagreement(first, second)
            self.assertEqual(found is None, delays(first, second) is not None)
            self.same(disagreement(second, first), found)
            self.first_of(chance, first[0], found, lambda word: naive.unlike(first, second, word))
            size = None if found is None else len(found)
            seen[size] = seen.get(size, 0) + 1
            if found is not None:
                self.assertLess(size, 2 * first[2] * second[2])
        self.assertTrue(all(seen[size] > 4 for size in (None, 0, 1, 2)), seen)


class SecondResult(Drawn):
    def test_edges(self):
        for translation, wanted in (
            (HELD, None), (LATE, None), (COPY, None), (one_state(ends=((0, ()), (0, (1,)))), ()), (one_state(ends=()), None),
            (one_state((EVEN, (READ,)), ((">", 3), (("always", 4),))), (6,)), (one_state((EVEN, (READ,)), (ODD, (READ, READ))), None),
            (one_state((EVEN, (READ,)), (EVEN, (("plus", (), 0),))), None), (one_state((TRUE, (READ,)), (EVEN, (("minus", (), 0),))), (2,)),
            ((INTEGERS, INTEGERS, 2, (0, 1), ((0, ()), (1, (3,))), ()), ()), ((INTEGERS, INTEGERS, 2, (0,), ((0, ()), (1, (3,))), ()), None),
            ((INTEGERS, INTEGERS, 2, (0, 1), ((0, ()), (1, ())), ((0, (">", 5), (READ,), 0), (1, ("=", 9), (("always", 1),), 1))), (9,)),
            (one_state((TRUE, ()), (TRUE, (READ,))), (0,)), (one_state((TRUE, ()), (TRUE, (READ,)), ends=()), None),
        ):
            self.same(second_result(translation), wanted)
            self.assertEqual(wanted is None, delays(translation, translation) is not None)

    def test_by_chance(self):
        seen = [0, 0]
        for chance, translation, _ in drawn(range(250)):
            found = second_result(translation)
            seen[found is None] += 1
            self.assertEqual(found is None, delays(translation, translation) is not None)
            self.first_of(chance, translation[0], found, lambda word: len(naive.results(translation, word)) > 1)
            if found is not None:
                self.assertGreater(len(results(translation, found)), 1)
        self.assertGreater(min(seen), 40)


class Same(Drawn):
    def test_edges(self):
        evens = one_state((EVEN, (READ,)))
        for first, second, wanted in (
            (LATE, SOON, (0,)), (COPY, COPY, None), (COPY, evens, (1,)), (COPY, one_state((EVEN, (READ,)), (ODD, (("plus", (), 0),))), None),
            (COPY, one_state((TRUE, (READ,)), ends=()), ()), (one_state(ends=()), one_state(ends=()), None),
            (COPY, one_state((EVEN, (READ,)), (ODD, (("minus", (), 2),))), (-1,)),
            # One domain has a word that comes later than the first unlike results, and the other way round.
            (COPY, one_state((("<", 5), (("minus", (), 0),))), (1,)), (COPY, one_state((("not", ("=", 1)), (("minus", (), 0),))), (1,)),
            (COPY, one_state((("not", ("=", 0)), (("minus", (), 0),))), (0,)), (COPY, one_state((TRUE, (("always", 0),))), (1,)),
            (COPY, one_state((("<", 3), (READ,)), ((">", 2), (("minus", (), 6),))), (4,)),
        ):
            self.same((same(first, second), same(second, first)), (wanted, wanted))

    def test_not_single(self):
        guess = one_state((EVEN, (READ,)), ((">", 3), (("always", 4),)))
        for first, second, number in ((guess, COPY, 0), (COPY, guess, 1), (guess, guess, 0), (LATE, guess, 1), (one_state(ends=()), guess, 1)):
            with self.refuses(NotSingle):
                same(first, second)
            with self.assertRaises(NotSingle) as caught:
                same(first, second)
            self.same(caught.exception.number, number)

    def test_other_kinds_first(self):
        guess = one_state((EVEN, (READ,)), ((">", 3), (("always", 4),)))
        for other in (one_state(kind=COLOURS), one_state(other=COLOURS), one_state(kind=DOUBLED)):
            for first, second in ((guess, other), (other, guess)):
                for call in (same, disagreement):
                    with self.refuses(OtherKinds):
                        call(first, second)
        with self.refuses(OtherKinds):
            disagreement(one_state(kind=COLOURS), one_state(kind=TURNED))

    def test_by_chance(self):
        seen = {"same": 0, "unlike": 0, "not single": 0}
        for chance, first, second in drawn(range(300)):
            doubles = [second_result(first) is not None, second_result(second) is not None]
            if any(doubles):
                seen["not single"] += 1
                with self.assertRaises(NotSingle) as caught:
                    same(first, second)
                self.same(caught.exception.number, doubles.index(True))
                continue
            found = same(first, second)
            seen["same" if found is None else "unlike"] += 1
            self.same(same(second, first), found)
            self.first_of(chance, first[0], found, lambda word: naive.results(first, word) != naive.results(second, word))
            told = delays(first, second) is not None and compare(domain(first), domain(second)) is None
            self.assertEqual(found is None, told)
        self.assertGreater(min(seen.values()), 25, seen)


class PassedOn(Drawn):
    def test_returned_translations(self):
        seen = [0, 0]
        for chance, first, second in drawn(range(600)):
            if first[0] != first[1]:
                continue
            twice, other = behind(first, second), restricted(behind(first, first), chance.machine(first[0], many=3))
            if twice[2] > 9 or other[2] > 9:
                continue
            found = disagreement(twice, other)
            seen[found is None] += 1
            self.first_of(chance, first[0], found, lambda word: naive.unlike(twice, other, word), 3)
            double = second_result(twice)
            self.assertEqual(double is None, delays(twice, twice) is not None)
            if double is None and second_result(other) is None:
                self.first_of(chance, first[0], same(twice, other), lambda word: results(twice, word) != results(other, word), 3)
        self.assertGreater(min(seen), 8)

    def test_the_same_question_has_the_same_answer(self):
        asked = [(first, second) for _, first, second in drawn(range(60))]
        before = [(disagreement(*told), second_result(told[0])) for told in asked]
        self.same([(disagreement(*told), second_result(told[0])) for told in asked[::-1]][::-1], before)


if __name__ == "__main__":
    unittest.main()

"""Agreement: [190], [191], [192] and the interface of agreement.py."""

import unittest
from itertools import product

from guardwords.agreement import check_delays, delays, double_steps, ends_together
from guardwords.differences import disagreement
from guardwords.errors import OtherKinds
from guardwords.translations import behind, restricted
from tests import naive_translations as naive
from tests.naive_translations import Beside, first_key
from tests.support import COLOURS, INTEGERS, Case, letters_near

TRUE = ("true",)
EVEN = ("mod", 2, 0)
ODD = ("not", EVEN)
NEVER = ("and", EVEN, ("mod", 4, 1))
READ = ("read", ())
EMPTY = (0, ())
TURNED = ("names", ("blue", "red"))
LATE = (INTEGERS, INTEGERS, 2, (0,), ((1, (7,)),), ((0, ("=", 7), (), 1), (1, ("=", 7), (READ,), 1)))
SOON = (INTEGERS, INTEGERS, 2, (0,), ((1, ()),), ((0, EVEN, (READ,), 1), (0, ODD, (("always", 7),), 1), (1, TRUE, (READ,), 1)))
HELD = (INTEGERS, INTEGERS, 2, (0,), ((1, ()),), ((0, TRUE, (), 1), (1, EVEN, (READ,), 1)))
KINDS = (INTEGERS, COLOURS, ("maybe", COLOURS), ("names", ("a",)), ("pair", COLOURS, ("names", ("a", "b"))))


def one_state(*steps, ends=((0, ()),), kind=INTEGERS, other=INTEGERS):
    return (kind, other, 1, (0,), ends, tuple((0, condition, terms, 0) for condition, terms in steps))


def changed(chance, translation):
    """The translation with one thing changed."""
    kind, other, many, starts, ends, steps = translation
    if not steps or chance.random() < 0.3:
        return (kind, other, many, starts, chance.end_words(many, other, 1), steps)
    i = chance.randrange(len(steps))
    p, condition, terms, q = steps[i]
    step = chance.choice(((p, condition, terms, chance.randrange(many)), (p, ("and", condition, chance.condition(kind, 2)), terms, q)))
    return (kind, other, many, starts, ends, steps[:i] + (step,) + steps[i + 1:])


def drawn(seeds):
    """Two translations of the same kinds that often agree."""
    for chance, kind, other in naive.drawn(seeds, kinds=KINDS):
        first = chance.translation(kind, other, most=chance.choice((0, 0, 1)), sizes=(0, 1, 1, 1, 2))
        way = chance.random()
        second = first if way < 0.3 else changed(chance, first) if way < 0.75 else chance.translation(kind, other, most=0)
        yield chance, first, second


def short_words(chance, kind, length):
    letters = letters_near(kind, 3)
    if len(letters) > 6:
        letters = sorted(chance.sample(letters, 6), key=first_key(kind))
    return [word for size in range(length + 1) for word in product(letters, repeat=size)]


class DoubleSteps(Case):
    def test_edges(self):
        self.same(double_steps(LATE, SOON, 0, 0), ((0, 1, 7),))
        self.same(double_steps(LATE, SOON, 1, 1), ((1, 2, 7),))
        self.same(double_steps(SOON, SOON, 0, 0), ((0, 0, 0), (1, 1, 1)))
        self.same(double_steps(SOON, LATE, 1, 0), ((2, 0, 7),))
        self.same(double_steps((INTEGERS, INTEGERS, 1, (), (), ()), LATE, 0, 1), ())

    def test_the_same_step_twice(self):
        twice = one_state((EVEN, (READ,)), (EVEN, (READ,)), (NEVER, ()), ((">", 4), ()))
        self.same(double_steps(twice, twice, 0, 0), ((0, 0, 0), (0, 1, 0), (0, 3, 6), (1, 0, 0), (1, 1, 0), (1, 3, 6), (3, 0, 6), (3, 1, 6), (3, 3, 5)))
        self.same(double_steps(twice, LATE, 0, 0), ((3, 0, 7),))

    def test_conditions_that_nothing_meets_together(self):
        self.same(double_steps(one_state((EVEN, ())), one_state((ODD, ()), (("mod", 4, 1), ())), 0, 0), ())
        self.same(double_steps(one_state((("<", 0), ())), one_state(((">", -2), ()), ((">", -1), ())), 0, 0), ((0, 0, -1),))
        self.same(double_steps(one_state((NEVER, ())), one_state((TRUE, ())), 0, 0), ())

    def test_by_chance(self):
        for chance, first, second in drawn(range(80)):
            beside = Beside(first, second)
            for p, q in beside.pairs:
                self.same(double_steps(first, second, p, q), beside.double_steps(p, q))


class EndsTogether(Case):
    def test_edges(self):
        self.same(ends_together(LATE, SOON, 1, 1), ())
        self.same(ends_together(LATE, SOON, 0, 0), (7,))
        self.same(ends_together(SOON, SOON, 0, 0), (0,))
        never = one_state((EVEN, ()), ends=())
        self.assertIsNone(ends_together(LATE, never, 1, 0))
        self.assertIsNone(ends_together(never, LATE, 0, 1))
        odd, even = (one_state((condition, ())) for condition in (ODD, EVEN))
        self.same(ends_together(odd, even, 0, 0), ())
        ahead = (INTEGERS, INTEGERS, 2, (0,), ((1, ()),), ((0, ODD, (), 1),))
        self.assertIsNone(ends_together(ahead, even, 0, 0))
        self.same(ends_together(ahead, odd, 0, 0), (1,))

    def test_the_first_word(self):
        # There are two ways of one length: the first letter counts first.
        first = (INTEGERS, INTEGERS, 3, (0,), ((2, ()),), ((0, ("=", 5), (), 1), (0, ("=", -4), (), 1), (1, (">", 2), (), 2),
                                                          (0, (">", 8), (), 0), (0, ("<", -8), (), 2)))
        everything = one_state((TRUE, ()))
        self.same(ends_together(first, everything, 0, 0), (-9,))
        self.same(ends_together(first[:5] + (first[5][:3],), everything, 0, 0), (-4, 3))
        self.same(ends_together(everything, first[:5] + (first[5][:3],), 0, 0), (-4, 3))
        self.same(ends_together(first[:5] + (first[5][:4],), one_state((("not", ("=", -4)), ())), 0, 0), (5, 3))

    def test_by_chance(self):
        dead = 0
        for chance, first, second in drawn(range(80)):
            beside = Beside(first, second)
            for p, q in beside.pairs:
                wanted = beside.ends_together(p, q)
                dead += wanted is None
                self.same(ends_together(first, second, p, q), wanted)
        self.assertGreater(dead, 50)


class Delays(Case):
    def test_exactly_the_table(self):
        for first, second, wanted in (
            (LATE, SOON, (((0, 0, EMPTY), (1, 1, (1, (7,)))), ())), (SOON, LATE, (((0, 0, EMPTY), (1, 1, (0, (7,)))), ())),
            (HELD, HELD, (((0, 0, EMPTY), (1, 1, EMPTY)), ())), (HELD, SOON, None), (SOON, HELD, None),
            (LATE, one_state((EVEN, (READ,))), ((), ((0, 0),))),
            (SOON, SOON, (((0, 0, EMPTY), (1, 1, EMPTY)), ())),
            (one_state((TRUE, (READ, ("always", 3)))), one_state((TRUE, (("plus", (), 0), ("always", 3)))), (((0, 0, EMPTY),), ())),
            (one_state((TRUE, (READ, READ))), one_state((TRUE, (READ,))), None),
            (one_state((TRUE, (READ,))), one_state((TRUE, (READ,)), (EVEN, (("plus", (), 0),))), (((0, 0, EMPTY),), ())),
            (one_state((TRUE, (READ,))), one_state((TRUE, (READ,)), (EVEN, (("plus", (), 1),))), None),
            (one_state(ends=((0, (1,)), (0, (2,)))), one_state(), None), (one_state(ends=((0, (1,)),)), one_state(ends=((0, (1,)),)), (((0, 0, EMPTY),), ())),
            (one_state(ends=()), one_state(ends=((0, (1,)), (0, (2,)))), ((), ((0, 0),))),
        ):
            self.same(delays(first, second), wanted)
            if wanted is not None:
                self.assertIs(check_delays(first, second, wanted), True)

    def test_delays_on_both_sides(self):
        slow = (INTEGERS, INTEGERS, 3, (0,), ((2, ()),), ((0, ("=", 1), (), 1), (1, ("=", 2), (("always", 5), ("always", 6)), 2)))
        fast = (INTEGERS, INTEGERS, 3, (0,), ((2, ()),), ((0, TRUE, (("always", 5),), 1), (1, TRUE, (("always", 6),), 2)))
        whole = (INTEGERS, INTEGERS, 3, (0,), ((2, ()),), ((0, TRUE, (("always", 5), ("always", 6)), 1), (1, TRUE, (), 2)))
        dead = tuple((p, q) for p in range(3) for q in range(3) if p != q)
        self.same(delays(slow, fast), (((0, 0, EMPTY), (1, 1, (1, (5,))), (2, 2, EMPTY)), dead))
        self.same(delays(fast, slow), (((0, 0, EMPTY), (1, 1, (0, (5,))), (2, 2, EMPTY)), dead))
        self.same(delays(slow, whole)[0], ((0, 0, EMPTY), (1, 1, (1, (5, 6))), (2, 2, EMPTY)))
        self.same(delays(whole, fast)[0], ((0, 0, EMPTY), (1, 1, (0, (6,))), (2, 2, EMPTY)))
        self.same(delays(fast, whole)[0], ((0, 0, EMPTY), (1, 1, (1, (6,))), (2, 2, EMPTY)))

    def test_delays_that_never_end(self):
        self.assertIsNone(delays(one_state((TRUE, (("always", 1), ("always", 1)))), one_state((TRUE, (("always", 1),)))))
        self.assertIsNone(delays(one_state((TRUE, (("always", 1),)), ends=((0, ()), (0, (1,)))), one_state((TRUE, (("always", 1),)))))
        # Where no word ends, what is written does not matter.
        silent = one_state((TRUE, ()), ends=())
        self.same(delays(one_state((TRUE, (READ, READ))), silent), ((), ((0, 0),)))

    def test_dead_pairs_are_left_out(self):
        ahead = (INTEGERS, INTEGERS, 3, (0,), ((1, ()),), ((0, EVEN, (READ,), 1), (0, ODD, (READ,), 2), (2, TRUE, (READ, READ), 2)))
        self.same(delays(ahead, ahead), (((0, 0, EMPTY), (1, 1, EMPTY)), ((0, 1), (0, 2), (1, 0), (1, 2), (2, 0), (2, 1), (2, 2))))
        # All dead pairs are told, also those to which no word leads.
        apart = (INTEGERS, INTEGERS, 2, (0,), ((0, ()),), ())
        self.same(delays(apart, apart), (((0, 0, EMPTY),), ((0, 1), (1, 0), (1, 1))))
        no_starts = (INTEGERS, INTEGERS, 1, (), ((0, ()),), ((0, TRUE, (READ, READ), 0),))
        self.same(delays(no_starts, no_starts), ((), ()))

    def test_terms_under_both_conditions_together(self):
        moved = one_state((TRUE, (("plus", (), 1),)))
        self.assertIsNone(delays(moved, one_state((("not", ("=", 4)), (("plus", (), 1),)), (("=", 4), (("always", 6),)))))
        self.same(delays(moved, one_state((("not", ("=", 4)), (("plus", (), 1),)), (("=", 4), (("always", 5),)))), (((0, 0, EMPTY),), ()))
        self.same(delays(moved, one_state((("=", 2), (("minus", (), 5),)))), (((0, 0, EMPTY),), ()))
        self.assertIsNone(delays(moved, one_state((("=", 2), (("minus", (), 4),)))))

    def test_a_constant_under_both_conditions(self):
        first = (INTEGERS, INTEGERS, 2, (0,), ((1, ()),), ((0, (">", 3), (READ,), 1),))
        second = (INTEGERS, INTEGERS, 2, (0,), ((1, (4,)),), ((0, ("<", 5), (), 1),))
        self.same(delays(first, second)[0], ((0, 0, EMPTY), (1, 1, (0, (4,)))))
        self.assertIsNone(delays(first, second[:5] + (((0, ("<", 6), (), 1),),)))

    def test_several_starts(self):
        two = (INTEGERS, INTEGERS, 2, (0, 1), ((0, ()), (1, ())), ((0, TRUE, (READ,), 1),))
        self.same(delays(two, two), (((0, 0, EMPTY), (0, 1, EMPTY), (1, 0, EMPTY), (1, 1, EMPTY)), ()))
        other = (INTEGERS, INTEGERS, 2, (0, 1), ((0, ()), (1, (5,))), ())
        self.assertIsNone(delays(other, other))

    def test_by_chance(self):
        agreed = 0
        for chance, first, second in drawn(range(250)):
            beside = Beside(first, second)
            found = delays(first, second)
            self.assertEqual(found is None, disagreement(first, second) is not None)
            if found is None:
                continue
            agreed += 1
            self.same(found[1], tuple(pair for pair in beside.pairs if beside.ends_together(*pair) is None))
            self.assertTrue(beside.closes(found))
            self.same([triple[:2] for triple in found[0]], sorted(triple[:2] for triple in found[0]))
            told = {}
            for word in short_words(chance, first[0], 3):
                self.assertFalse(naive.unlike(first, second, word))
                for p, one in naive.runs(first, word):
                    for q, other in naive.runs(second, word):
                        if (p, q) not in found[1]:
                            told.setdefault((p, q), set()).add(left(one, other))
            for pair, words in told.items():
                self.assertEqual([triple[2] for triple in found[0] if triple[:2] == pair], sorted(words))
        self.assertGreater(agreed, 100)


def left(one, other):
    """The delay of two words of which one begins with the other one."""
    many = min(len(one), len(other))
    return (1, other[many:]) if len(other) > many else (0, one[many:])


class Closes(Case):
    def test_any_order(self):
        triples, dead = ((0, 0, EMPTY), (1, 1, (1, (7,)))), ()
        self.assertIs(check_delays(LATE, SOON, (triples, dead)), True)
        self.assertIs(check_delays(LATE, SOON, (triples[::-1], dead)), True)
        self.assertIs(check_delays(SOON, LATE, (triples, dead)), False)
        self.assertIs(check_delays(SOON, LATE, (((1, 1, (0, (7,))), (0, 0, EMPTY)), dead)), True)

    def test_without_a_triple(self):
        self.assertIs(check_delays(LATE, SOON, (((0, 0, EMPTY),), ())), False)
        self.assertIs(check_delays(LATE, SOON, (((1, 1, (1, (7,))),), ())), False)
        self.assertIs(check_delays(LATE, SOON, ((), ())), False)

    def test_an_exchanged_delay(self):
        for delay in ((0, (7,)), EMPTY, (1, (6,)), (1, (7, 7)), (1, ())):
            self.assertIs(check_delays(LATE, SOON, (((0, 0, EMPTY), (1, 1, delay)), ())), False)
        for delay in ((0, (7,)), (1, (7,))):
            self.assertIs(check_delays(LATE, SOON, (((0, 0, delay), (1, 1, (1, (7,)))), ())), False)

    def test_a_pair_too_many_in_dead(self):
        triples = ((0, 0, EMPTY), (1, 1, (1, (7,))))
        for dead in (((0, 0),), ((1, 1),), ((0, 0), (1, 1)), ((1, 0), (1, 1))):
            self.assertIs(check_delays(LATE, SOON, (triples, dead)), False)
        # From (0, 1) a double step leads to a pair that is not dead, from (1, 0) also.
        self.assertIs(check_delays(LATE, SOON, (triples, ((0, 1),))), False)
        self.assertIs(check_delays(LATE, SOON, (triples, ((1, 0),))), False)

    def test_pairs_in_dead_that_are_dead(self):
        dead = tuple((p, q) for p in range(3) for q in range(3) if (p, q) not in ((0, 0), (1, 1)))
        ahead = (INTEGERS, INTEGERS, 3, (0,), ((1, ()),), ((0, EVEN, (READ,), 1), (0, ODD, (READ,), 2), (2, TRUE, (READ, READ), 2)))
        triples = ((0, 0, EMPTY), (1, 1, EMPTY))
        self.assertIs(check_delays(ahead, ahead, (triples, dead)), True)
        self.assertIs(check_delays(ahead, ahead, (triples, ((2, 2),))), True)
        self.assertIs(check_delays(ahead, ahead, (triples, ())), False)
        # A pair may be in dead and in the triples, with whatever delay goes on to pairs in dead alone.
        for delay in (EMPTY, (0, (4,)), (1, (5, 6))):
            self.assertIs(check_delays(ahead, ahead, (triples + ((2, 2, delay),), dead)), True)
        self.assertIs(check_delays(ahead, ahead, (triples + ((2, 2, EMPTY),), ())), True)
        self.assertIs(check_delays(ahead, ahead, (triples + ((2, 2, (0, (4,))),), ())), False)

    def test_end_words(self):
        one, other = one_state(ends=((0, (3, 4)),)), (INTEGERS, INTEGERS, 1, (0,), ((0, (3, 4)),), ())
        self.assertIs(check_delays(one, other, (((0, 0, EMPTY),), ())), True)
        two = one_state(ends=((0, (3, 4)), (0, (3,))))
        self.assertIs(check_delays(one, two, (((0, 0, EMPTY),), ())), False)
        self.assertIs(check_delays(two, one, (((0, 0, EMPTY),), ())), False)
        no_starts = one[:3] + ((),) + one[4:]
        for delay, wanted in ((EMPTY, False), ((0, (2,)), True), ((1, (2,)), False), ((0, (3,)), False)):
            self.assertIs(check_delays(no_starts, one_state(ends=((0, (2, 3, 4)),)), (((0, 0, delay),), ())), wanted)
            self.assertIs(check_delays(one_state(ends=((0, (2, 3, 4)),)), no_starts, (((0, 0, (1 - delay[0], delay[1])),), ())), wanted)
        self.assertIs(check_delays(no_starts, no_starts, ((), ((0, 0),))), False)
        self.assertIs(check_delays(no_starts, no_starts, ((), ())), True)

    def test_starts(self):
        nowhere = one_state((TRUE, ()), ends=())
        self.assertIs(check_delays(nowhere, nowhere, ((), ())), False)
        self.assertIs(check_delays(nowhere, nowhere, ((), ((0, 0),))), True)
        self.assertIs(check_delays(nowhere, nowhere, (((0, 0, EMPTY),), ())), True)
        self.assertIs(check_delays(nowhere, nowhere, (((0, 0, (0, (1,))),), ())), False)
        self.assertIs(check_delays(nowhere, nowhere, (((0, 0, (0, (1,))),), ((0, 0),))), True)

    def test_letters_of_the_delay_against_terms(self):
        first = (INTEGERS, INTEGERS, 2, (1,), ((0, ()),), ((0, ("=", 5), (READ,), 0),))
        second = (INTEGERS, INTEGERS, 1, (0,), ((0, ()),), ((0, ("<", 6), (READ,), 0),))
        dead = ((1, 0),)
        self.assertIs(check_delays(first, second, (((0, 0, EMPTY),), dead)), True)
        no_ends = first[:4] + ((), first[5])
        for delay, wanted in (((0, (5,)), True), ((1, (5,)), True), ((0, (5, 5)), True), ((0, (4,)), False), ((1, (5, 4)), False), ((1, (50, 5)), False)):
            self.assertIs(check_delays(no_ends, second, (((0, 0, delay),), dead)), wanted)

    def test_by_chance(self):
        seen = []
        for chance, first, second in drawn(range(200)):
            beside = Beside(first, second)
            found = delays(first, second)
            if found is None:
                dead = tuple(pair for pair in beside.pairs if beside.ends_together(*pair) is None)
                found = (tuple(pair + (EMPTY,) for pair in beside.pairs if chance.random() < 0.5), dead)
            for _ in range(5):
                table = self.exchanged(chance, beside, found)
                seen.append(check_delays(first, second, table))
                self.assertIs(seen[-1], beside.closes(table))
                if seen[-1]:
                    self.assertIsNotNone(delays(first, second))
        self.assertGreater(min(seen.count(True), seen.count(False)), 100)

    def exchanged(self, chance, beside, table):
        triples, dead = list(table[0]), list(table[1])
        letters = [a for p, word in beside.first[4] + beside.second[4] for a in word] or [None]
        way = chance.randrange(6)
        if way == 0 and triples:
            triples.pop(chance.randrange(len(triples)))
        elif way == 1 and dead:
            dead.pop(chance.randrange(len(dead)))
        elif way == 2:
            dead = list(dict.fromkeys(dead + [chance.choice(beside.pairs)]))
        elif way == 3 and triples and letters != [None]:
            i = chance.randrange(len(triples))
            triples[i] = triples[i][:2] + (chance.choice((EMPTY, (0, (chance.choice(letters),)), (1, (chance.choice(letters),)))),)
        elif way == 4:
            pair = chance.choice(beside.pairs)
            if pair not in [triple[:2] for triple in triples]:
                triples.append(pair + (EMPTY,))
        chance.shuffle(triples)
        chance.shuffle(dead)
        return (tuple(triples), tuple(dead))


class Refused(Case):
    def test_other_kinds_in_either_order(self):
        colours = one_state(kind=COLOURS)
        painted = one_state(other=COLOURS)
        turned = one_state(other=TURNED)
        for first, second in ((LATE, colours), (LATE, painted), (painted, turned), (colours, one_state(kind=TURNED))):
            for one, other in ((first, second), (second, first)):
                for call in (lambda: double_steps(one, other, 0, 0), lambda: ends_together(one, other, 0, 0), lambda: delays(one, other),
                             lambda: check_delays(one, other, ((), ()))):
                    with self.refuses(OtherKinds):
                        call()


class PassedOn(Case):
    def test_returned_translations_and_tables(self):
        checked = 0
        for chance, first, second in drawn(range(150)):
            if first[0] != first[1]:
                continue
            twice, other = behind(first, second), restricted(behind(first, first), chance.machine(first[0], many=3))
            if twice[2] > 9 or other[2] > 9:
                continue
            found = delays(twice, other)
            self.assertEqual(found is None, disagreement(twice, other) is not None)
            if found is not None:
                checked += 1
                self.assertIs(check_delays(twice, other, found), True)
                self.assertTrue(Beside(twice, other).closes(found))
                turned = tuple((q, p, (1 - side if word else 0, word)) for p, q, (side, word) in found[0])
                self.assertIs(check_delays(other, twice, (turned, tuple((q, p) for p, q in found[1]))), True)
                for pair in found[1][:4]:
                    self.assertIsNone(ends_together(twice, other, *pair))
        self.assertGreater(checked, 20)

    def test_the_same_question_has_the_same_answer(self):
        asked = [(first, second) for _, first, second in drawn(range(40))]
        before = [(delays(*told), double_steps(*told, 0, 0), ends_together(*told, 0, 0)) for told in asked]
        after = [(delays(*told), double_steps(*told, 0, 0), ends_together(*told, 0, 0)) for told in asked[::-1]][::-1]
        self.same(after, before)


if __name__ == "__main__":
    unittest.main()

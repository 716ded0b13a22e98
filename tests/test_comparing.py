"""Two machines beside each other: [80], [81] and the interface of comparing.py."""

import itertools
import unittest

from guardwords.comparing import closes, compare, links, links_close, table, within
from guardwords.errors import OtherKinds
from guardwords.forms import determined, least
from guardwords.machines import takes
from tests import naive
from tests.support import COLOURS, INTEGERS, Case, Chance

EVEN = ("mod", 2, 0)
ODD = ("not", EVEN)
TRUE = ("true",)
TICK = ("names", ("a",))
PARITY = (INTEGERS, 2, (0,), (0,), ((0, EVEN, 0), (0, ODD, 1), (1, EVEN, 1), (1, ODD, 0)))
LAST_EVEN = (INTEGERS, 2, (0,), (1,), ((0, TRUE, 0), (0, EVEN, 1)))
CALLS = (compare, within, table, links, lambda a, b: closes(a, b, ()), lambda a, b: links_close(a, b, ()))


def wheel(size, ends=None):
    """A machine over one letter that goes round."""
    steps = tuple((k, TRUE, (k + 1) % size) for k in range(size))
    return (TICK, size, (0,), tuple(range(size)) if ends is None else ends, steps)


def drawn(seeds, **told):
    """Two machines of one kind."""
    for chance, machine in naive.drawn(seeds, **told):
        yield chance, machine, chance.machine(machine[0], **{"states": 3, "steps": 5, "many": 4, **told})


def alike(seeds):
    """Machines, each with one that takes the same words."""
    for chance, machine in naive.drawn(seeds, states=3, steps=4):
        yield chance, machine, chance.choice((machine, least(machine), determined(machine), turned(machine)))


def turned(machine):
    """The same machine with its states in another order, its conditions written otherwise, and a step twice."""
    kind, many, starts, ends, steps = machine
    other = tuple((many - 1 - p, ("or", c, ("not", ("not", c))), many - 1 - q) for p, c, q in steps[::-1])
    return (kind, many, tuple(many - 1 - p for p in starts[::-1]), tuple(many - 1 - p for p in ends[::-1]), other + other[:1])


class Kinds(Case):
    def test_other_kinds(self):
        for one, other in (
            (INTEGERS, COLOURS), (COLOURS, ("names", ("blue", "red"))), (COLOURS, ("names", ("red",))),
            (("maybe", INTEGERS), INTEGERS), (("pair", INTEGERS, COLOURS), ("pair", COLOURS, INTEGERS)),
            (("either", (INTEGERS,)), ("either", (INTEGERS, INTEGERS))),
            (("maybe", COLOURS), ("maybe", ("names", ("blue", "red")))),
        ):
            first, second = (one, 1, (0,), (0,), ((0, TRUE, 0),)), (other, 1, (0,), (0,), ((0, TRUE, 0),))
            for call in CALLS:
                with self.refuses(OtherKinds):
                    call(first, second)
                with self.refuses(OtherKinds):
                    call(second, first)
                call(first, first)


class Compare(Case):
    def check(self, first, second):
        word = naive.compare(first, second)
        self.same(compare(first, second), word)
        self.same(compare(second, first), word)
        self.same(within(first, second), naive.within(first, second))
        self.same(within(second, first), naive.within(second, first))
        if word is not None:
            self.assertNotEqual(takes(first, word), takes(second, word))

    def test_a_machine_with_itself_and_written_otherwise(self):
        for chance, machine, other in alike(range(100)):
            for one in (machine, other, turned(machine)):
                self.assertIsNone(compare(machine, one))
                self.assertIsNone(compare(one, machine))
                self.assertIsNone(within(machine, one))
                self.assertIsNone(within(one, machine))

    def test_one_thing_changed(self):
        for chance, machine, _ in drawn(range(150), states=3, steps=4):
            kind, many, starts, ends, steps = machine
            self.check(machine, (kind, many, starts, chance.states(many, (0, 1, 2)), steps))
            self.check(machine, (kind, many, chance.states(many, (0, 1, 2)), ends, steps))
            if steps:
                at = chance.randrange(len(steps))
                p, c, q = steps[at]
                for step in ((p, chance.condition(kind, 3), q), (p, c, chance.randrange(many))):
                    self.check(machine, (kind, many, starts, ends, steps[:at] + (step,) + steps[at + 1:]))

    def test_by_chance(self):
        for chance, first, second in drawn(range(200)):
            self.check(first, second)

    def test_words(self):
        self.same(compare(LAST_EVEN, PARITY), ())
        self.same(within(LAST_EVEN, PARITY), (1, 0))
        self.same(within(PARITY, LAST_EVEN), ())
        shifted = PARITY[:4] + (PARITY[4][:3] + ((1, ("and", ODD, ("not", ("=", -9))), 0),),)
        self.same(compare(PARITY, shifted), (1, -9))
        self.same(within(PARITY, shifted), (1, -9))
        self.assertIsNone(within(shifted, PARITY))
        for one, other in ((wheel(2, (0,)), wheel(3, (0,))), (wheel(4, (0, 2)), wheel(2, (0,)))):
            self.check(one, other)
        self.assertIsNone(compare(wheel(4, (0, 2)), wheel(2, (0,))))

    def test_machines_that_take_nothing(self):
        nothing = (INTEGERS, 1, (), (), ())
        self.same(compare(nothing, LAST_EVEN), (0,))
        self.same(within(LAST_EVEN, nothing), (0,))
        self.assertIsNone(within(nothing, LAST_EVEN))
        self.assertIsNone(compare(nothing, (INTEGERS, 2, (0,), (1,), ((0, TRUE, 0),))))


class Tables(Case):
    def test_order_of_first_words(self):
        for chance, first, second in drawn(range(120)):
            found = table(first, second)
            self.same(found, tuple(naive.pairs_of(first, second)))
            self.assertIs(closes(first, second, found), naive.compare(first, second) is None)
            self.same(table(second, first), tuple((q, p) for p, q in found))

    def test_tables_that_close(self):
        for chance, first, second in alike(range(100)):
            found = list(table(first, second))
            self.assertIs(closes(first, second, tuple(found)), True)
            chance.shuffle(found)
            self.assertIs(closes(first, second, tuple(found + found[:2])), True)
            for at in range(len(found)):
                left = tuple(found[:at] + found[at + 1:])
                self.assertIs(closes(first, second, left), False)

    def test_no_pairs(self):
        self.assertIs(closes(PARITY, PARITY, ()), False)
        self.assertIs(links_close(PARITY, PARITY, ()), False)

    def test_sets_to_which_no_word_leads(self):
        found = (((0,), (0,)), ((1,), (1,)))
        for pairs, wanted in (
            (found, True), (found[:1], False), (found[1:], False), (found + (((), ()),), True),
            (found + (((0, 1), (0, 1)),), True), (found + (((0, 1), (0,)),), False), (found + (((0,), (1,)),), False),
            (found + (((0, 1), (0,)), ((0, 1), (1,))), False), (found + (((1,), ()),), False),
        ):
            self.assertIs(closes(PARITY, PARITY, pairs), wanted)

    def test_without_starts(self):
        nothing = (INTEGERS, 1, (), (), ())
        self.same(table(nothing, nothing), (((), ()),))
        self.same(links(nothing, nothing), (((), ()),))
        self.assertIs(closes(nothing, nothing, (((), ()),)), True)
        self.assertIs(links_close(nothing, nothing, (((), ()),)), True)

    def drawn_pairs(self, chance, first, second):
        pairs = list(table(first, second))[:chance.randint(0, 40)]
        for _ in range(chance.randint(0, 4)):
            pairs.append((chance.states(first[1], (0, 1, 2)), chance.states(second[1], (0, 1, 2))))
        chance.shuffle(pairs)
        return tuple(pairs[:40])

    def test_pairs_by_chance(self):
        seen = set()
        for chance, first, second in itertools.chain(drawn(range(120)), alike(range(120))):
            pairs = self.drawn_pairs(chance, first, second)
            wanted = naive.closes(first, second, pairs), naive.links_close(first, second, pairs)
            self.same((closes(first, second, pairs), links_close(first, second, pairs)), wanted)
            seen.add(wanted)
        self.assertEqual(seen, {(True, True), (False, True), (False, False)})


class Links(Case):
    def test_wheels(self):
        for one, other in itertools.product(range(1, 5), repeat=2):
            first, second = wheel(one), wheel(other)
            found = links(first, second)
            self.same(found, naive.links(first, second))
            self.assertLess(len(found), one + other)
            self.assertIs(links_close(first, second, found), True)
            self.assertIs(links_close(first, second, table(first, second)), True)
        self.assertLess(len(links(wheel(3), wheel(4))), len(table(wheel(3), wheel(4))))
        self.assertIs(closes(wheel(3), wheel(4), links(wheel(3), wheel(4))), False)

    def test_wheels_with_other_ends(self):
        first, second = wheel(3, (0,)), wheel(2, (0,))
        self.assertIs(links_close(first, second, links(first, second)), False)
        self.assertIs(links_close(wheel(4, (0, 2)), second, links(wheel(4, (0, 2)), second)), True)

    def test_missing_links(self):
        for chance, first, second in alike(range(100)):
            found = list(links(first, second))
            self.assertIs(links_close(first, second, tuple(found)), True)
            chance.shuffle(found)
            self.assertIs(links_close(first, second, tuple(found + found[:1])), True)
            for at in range(len(found)):
                left = tuple(found[:at] + found[at + 1:])
                self.assertIs(links_close(first, second, left), naive.links_close(first, second, left))

    def test_they_close_exactly_if_the_words_are_the_same(self):
        for chance, first, second in drawn(range(150)):
            found = links(first, second)
            self.same(found, naive.links(first, second))
            self.assertIs(links_close(first, second, found), naive.compare(first, second) is None)
            self.assertLess(len(found), determined(first)[1] + determined(second)[1])

    def test_equal_tuples_of_the_two_machines_differ(self):
        pairs = (((0,), (1,)), ((1,), (0,)))
        self.assertIs(links_close(wheel(2), wheel(2), pairs), False)
        self.assertIs(links_close(wheel(2), wheel(2), pairs + (((0,), (0,)),)), True)


class PassedOn(Case):
    def test_returned_machines(self):
        for seed in range(60):
            chance = Chance(seed, 20, (1, 2, 3, 4))
            machine = chance.machine(chance.kind())
            other = chance.machine(machine[0])
            form, forms = least(machine), least(other)
            if form[1] <= 16 and forms[1] <= 16:
                word = compare(machine, other)
                self.same(compare(form, forms), word)
                self.same(compare(machine, forms), word)
                self.same(within(form, other), within(machine, other))
                self.assertIs(closes(form, forms, table(form, forms)), word is None)
                self.assertIs(links_close(form, machine, links(form, machine)), True)
                self.assertEqual(len(links(form, form)), form[1])

    def test_the_same_question_has_the_same_answer(self):
        machines = [(one, other) for chance, one, other in drawn(range(40))]
        before = [(compare(*two), table(*two), links(*two)) for two in machines]
        after = [(compare(*two), table(*two), links(*two)) for two in machines[::-1]][::-1]
        self.same(after, before)


if __name__ == "__main__":
    unittest.main()

"""One theory within another: [20], [21] and the points of the functions.

Where each letter is put into a letter of another kind in the same way, and the order stays as it was, all answers are
the same answers with the letters put in.
"""

import unittest

from guardwords.agreement import check_delays, delays, double_steps, ends_together
from guardwords.comparing import compare, table, within
from guardwords.counting import count, first_of_length, lengths, word_at
from guardwords.desks import Desk
from guardwords.differences import disagreement, same, second_result
from guardwords.errors import GuardError
from guardwords.forms import first_words, least, partings
from guardwords.growth import degree, doubling
from guardwords.joining import both_take
from guardwords.leading import check_lead, lead_table, leads, safe
from guardwords.letters import compared
from guardwords.machines import first_word, takes, trap
from guardwords.parting import constant, part
from guardwords.runs import split_table, two_runs, ways
from guardwords.terms import gives, put_behind
from guardwords.translations import behind, check_translation, domain, image, inverse, restricted, results, source
from guardwords.writing import certain, doubt, written
from tests import naive_translations as naive
from tests.naive_translations import paths_of
from tests.support import COLOURS, INTEGERS, Case
from tests.test_agreement import changed

TRUE = ("true",)
KINDS = (INTEGERS, COLOURS, ("maybe", COLOURS), ("maybe", INTEGERS))


class Into:
    """Letters put into letters of a larger kind, in the same way each; the path leads back to them."""

    def __init__(self, kind, path, condition, letter, term):
        self.kind, self.path, self.condition, self.letter, self.term = kind, path, condition, letter, term

    def word(self, word):
        return None if word is None else tuple(self.letter(letter) for letter in word)


# Ways to put letters of a kind into letters of another one. All of them keep the order.
WAYS = (
    lambda kind: Into(("either", (kind,)), (0,), lambda c: ("case", 0, c), lambda a: ("case", 0, a), lambda t: ("case", 0, t)),
    lambda kind: Into(("pair", ("names", ("x",)), kind), ("second",), lambda c: ("second", c), lambda a: ("pair", "x", a),
                      lambda t: ("pair", ("always", "x"), t)),
    lambda kind: Into(("pair", kind, ("names", ("x",))), ("first",), lambda c: ("first", c), lambda a: ("pair", a, "x"),
                      lambda t: ("pair", t, ("always", "x"))),
    # Further letters that no condition lets through.
    lambda kind: Into(("maybe", kind), ("some",), lambda c: ("some", c), lambda a: ("some", a), lambda t: ("some", t)),
    lambda kind: Into(("either", (COLOURS, kind)), (1,), lambda c: ("case", 1, c), lambda a: ("case", 1, a), lambda t: ("case", 1, t)),
)


def moved_term(term, way, out):
    """The term that gives, for a letter that is put in by one way, the letter that is put in by the other one."""
    return out.term(deeper(term, way.path))


def deeper(term, path):
    match term:
        case ("always", _):
            return term
        case ("read", inner):
            return ("read", path + inner)
        case ("plus" | "minus", inner, n):
            return (term[0], path + inner, n)
        case ("case", i, inner):
            return ("case", i, deeper(inner, path))
    return term[:1] + tuple(deeper(inner, path) for inner in term[1:])


def moved_machine(machine, way):
    _, many, starts, ends, steps = machine
    return (way.kind, many, starts, ends, tuple((p, way.condition(c), q) for p, c, q in steps))


def moved_translation(translation, way, out):
    _, _, many, starts, ends, steps = translation
    return (way.kind, out.kind, many, starts, tuple((state, out.word(word)) for state, word in ends), tuple(
        (p, way.condition(c), tuple(moved_term(term, way, out) for term in terms), q) for p, c, terms, q in steps))


def drawn(seeds, only_keeping=False):
    """Two translations, machines over both kinds, and the same with the letters put in."""
    for chance, kind, other in naive.drawn(seeds, kinds=KINDS):
        ways = WAYS[:3] if only_keeping else WAYS
        way, out = chance.choice(ways)(kind), chance.choice(ways)(other)
        first = chance.translation(kind, other, sizes=(0, 1, 1, 2))
        second = changed(chance, first) if chance.random() < 0.7 else chance.translation(kind, other)
        yield chance, way, out, first, second, chance.machine(kind, many=3), chance.machine(other, many=3)


def told(call, *arguments):
    try:
        return call(*arguments)
    except GuardError as error:
        return type(error).__name__


class Words(Case):
    def test_order(self):
        for chance, way, *_ in drawn(range(60)):
            kind = naive.at_path(way.kind, way.path)
            for _ in range(10):
                a, b = chance.letter(kind), chance.letter(kind)
                self.same(compared(way.kind, way.letter(a), way.letter(b)), compared(kind, a, b))

    def test_machines(self):
        for chance, way, _, _, _, machine, _ in drawn(range(80)):
            moved = moved_machine(machine, way)
            self.same(first_word(moved), way.word(first_word(machine)))
            self.same((trap(moved), split_table(moved), lengths(moved)), (trap(machine), split_table(machine), lengths(machine)))
            self.same(two_runs(moved), way.word(two_runs(machine)))
            word = chance.word(machine[0], 3)
            self.same((takes(moved, way.word(word)), ways(moved, way.word(word))), (takes(machine, word), ways(machine, word)))
            for k in range(4):
                self.same((count(moved, k), first_of_length(moved, k)), (count(machine, k), way.word(first_of_length(machine, k))))
                self.same(word_at(moved, k), way.word(word_at(machine, k)))
            self.same(degree(moved), degree(machine))

    def test_least_forms_where_all_letters_are_put_in(self):
        for chance, way, _, _, _, machine, _ in drawn(range(80), True):
            moved, other = moved_machine(machine, way), chance.machine(machine[0], many=3)
            self.same((least(moved)[:4], [(p, q) for p, _, q in least(moved)[4]]),
                      ((way.kind,) + least(machine)[1:4], [(p, q) for p, _, q in least(machine)[4]]))
            self.same(first_words(moved), tuple(way.word(word) for word in first_words(machine)))
            self.same(partings(moved), tuple(tuple(way.word(word) for word in row) for row in partings(machine)))
            self.same(table(moved, moved_machine(other, way)), table(machine, other))
            self.same(compare(moved, moved_machine(other, way)), way.word(compare(machine, other)))
            self.same(within(moved, moved_machine(other, way)), way.word(within(machine, other)))
            found = doubling(machine)
            self.same(doubling(moved), None if found is None else tuple(way.word(word) for word in found))


class Terms(Case):
    def test_parts_and_constants(self):
        for chance, way, out, first, _, _, _ in drawn(range(150)):
            kind, other = first[:2]
            one, two, condition = chance.term(kind, other), chance.term(kind, other), chance.condition(kind)
            moved = (way.kind, way.condition(condition), out.kind)
            letter = part(kind, condition, other, one, two)
            self.same(part(*moved, moved_term(one, way, out), moved_term(two, way, out)), None if letter is None else way.letter(letter))
            letter = constant(kind, condition, other, one)
            self.same(constant(*moved, moved_term(one, way, out)), None if letter is None else out.letter(letter))
            letter = chance.letter(kind)
            found = gives(one, letter)
            self.same(gives(moved_term(one, way, out), way.letter(letter)), None if found is None else out.letter(found))
            back = put_behind(moved_term(one, way, out), ("read", out.path))
            self.same(gives(back, way.letter(letter)), found)


class Translations(Case):
    def test_what_is_made(self):
        for chance, way, out, first, second, machine, other in drawn(range(120)):
            moved = moved_translation(first, way, out)
            self.assertIsNone(check_translation(moved))
            there, beyond = moved_machine(machine, way), moved_machine(other, out)
            for _ in range(5):
                word = chance.word(first[0], chance.randint(0, 3))
                found = results(first, word)
                self.same(results(moved, way.word(word)), tuple(out.word(result) for result in found))
                self.same(takes(inverse(moved, beyond), way.word(word)), takes(inverse(first, other), word))
                self.same(results(restricted(moved, there), way.word(word)), tuple(out.word(result) for result in results(restricted(first, machine), word)))
                for result in found[:2]:
                    self.same(source(moved, there, out.word(result)), way.word(source(first, machine, result)))
            self.same(first_word(domain(moved)), way.word(first_word(domain(first))))
            if all(sum(len(paths_of(term)) for term in step[2]) < 2 for step in first[5]):
                self.same(first_word(image(moved, there)), out.word(first_word(image(first, machine))))
                self.same(first_word(both_take(image(moved, there), beyond)), out.word(first_word(both_take(image(first, machine), other))))

    def test_one_within_the_other_and_back(self):
        for chance, way, out, first, _, _, _ in drawn(range(80)):
            inward = (first[0], way.kind, 1, (0,), ((0, ()),), ((0, TRUE, (way.term(("read", ())),), 0),))
            outward = (out.kind, first[1], 1, (0,), ((0, ()),), ((0, out.condition(TRUE), (("read", out.path),), 0),))
            whole = behind(behind(inward, moved_translation(first, way, out)), outward)
            for _ in range(6):
                word = chance.word(first[0], chance.randint(0, 4))
                self.same(results(whole, word), results(first, word))
            if whole[2] <= 9 and second_result(first) is None:
                self.assertIsNone(same(whole, first))

    def test_agreement_and_differences(self):
        seen = [0, 0]
        for _, way, out, first, second, _, _ in drawn(range(150)):
            one, other = moved_translation(first, way, out), moved_translation(second, way, out)
            found = delays(first, second)
            seen[found is None] += 1
            moved = None
            if found is not None:
                moved = (tuple((p, q, (side, out.word(word))) for p, q, (side, word) in found[0]), found[1])
                self.assertIs(check_delays(one, other, moved), True)
            self.same(delays(one, other), moved)
            self.same(disagreement(one, other), way.word(disagreement(first, second)))
            self.same(second_result(one), way.word(second_result(first)))
            result = told(same, first, second)
            self.same(told(same, one, other), result if isinstance(result, str) else way.word(result))
            self.same(double_steps(one, other, 0, 0), tuple((i, j, way.letter(a)) for i, j, a in double_steps(first, second, 0, 0)))
            self.same(ends_together(one, other, 0, 0), way.word(ends_together(first, second, 0, 0)))
        self.assertGreater(min(seen), 20)

    def test_leading(self):
        for _, way, out, first, _, machine, other in drawn(range(100)):
            moved = (moved_translation(first, way, out), moved_machine(machine, way), moved_machine(other, out))
            self.same(leads(*moved), way.word(leads(first, machine, other)))
            self.same(lead_table(*moved), lead_table(first, machine, other))
            self.same(check_lead(*moved, lead_table(*moved)), leads(first, machine, other) is None)
            self.same(first_word(both_take(safe(moved[0], moved[2]), moved[1])), way.word(first_word(both_take(safe(first, other), machine))))

    def test_writing(self):
        for chance, way, out, first, _, _, _ in drawn(range(100)):
            moved = moved_translation(first, way, out)
            for length in range(3):
                word = chance.word(first[0], length)
                self.same(certain(moved, way.word(word)), out.word(certain(first, word)))
                self.same(tuple(written(moved, way.word(word))), tuple(out.word(piece) for piece in written(first, word)))
                found = doubt(first, word)
                self.same(doubt(moved, way.word(word)), None if found is None else tuple(
                    None if pair is None else (way.word(pair[0]), out.word(pair[1])) for pair in found))


class Desks(Case):
    def test_desks(self):
        for chance, way, out, first, second, machine, other in drawn(range(60), True):
            one = Desk.made((("t", ("translation", first)), ("u", ("translation", second)), ("a", ("machine", machine)), ("b", ("machine", other)),
                             ("i", ("inverse", "t", "b")), ("o", ("other", "i")), ("r", ("restricted", "t", "a"))))
            moved = Desk.made((("t", ("translation", moved_translation(first, way, out))), ("u", ("translation", moved_translation(second, way, out))),
                               ("a", ("machine", moved_machine(machine, way))), ("b", ("machine", moved_machine(other, out))),
                               ("i", ("inverse", "t", "b")), ("o", ("other", "i")), ("r", ("restricted", "t", "a"))))
            self.same(moved.compare("o", "a"), way.word(one.compare("o", "a")))
            self.same(moved.least("i")[1:4], one.least("i")[1:4])
            self.same(moved.leads("r", "a", "b"), way.word(one.leads("r", "a", "b")))
            result = told(one.same, "t", "u")
            self.same(told(moved.same, "t", "u"), result if isinstance(result, str) else way.word(result))
            word = chance.word(machine[0], 2)
            self.same(moved.results("r", way.word(word)), tuple(out.word(told_word) for told_word in one.results("r", word)))
            self.same((moved.role("r")[3], moved.weight("o"), moved.users("t")), (one.role("r")[3], one.weight("o"), one.users("t")))


if __name__ == "__main__":
    unittest.main()

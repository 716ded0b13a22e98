"""Questions to a desk: [7], [220] and the interface of desks.py."""

import unittest

from guardwords.comparing import compare
from guardwords.desks import Desk
from guardwords.differences import same
from guardwords.errors import BadLetter, GuardError, NotSingle, OtherKinds, UnknownName, WrongUse
from guardwords.expressions import to_machine
from guardwords.forms import least
from guardwords.joining import backwards, both_take, followed, not_taken, one_takes, repeated
from guardwords.leading import leads
from guardwords.machines import first_word, takes
from guardwords.translations import behind, domain, image, inverse, restricted, results
from tests import naive
from tests import naive_translations as translations
from tests.naive_desks import Drawer, names_of, refusal
from tests.support import COLOURS, INTEGERS, NUMBERED, word_key
from tests.test_agreement import short_words
from tests.test_desks import A, COPY, EVENS, FORMS, JOINED, LAST_EVEN, MARKED, ODD, REDS, SECONDS, T, TRUE, TWICE, DeskCase, one_step

READ = ("read", ())
GUESS = (INTEGERS, INTEGERS, 1, (0,), ((0, ()),), ((0, TRUE, (READ,), 0), (0, (">", 3), (("always", 4),), 0)))
MADE = {
    "both": both_take, "either": one_takes, "other": not_taken, "then": followed, "star": repeated, "back": backwards, "domain": domain,
    "inverse": inverse, "image": image, "restricted": restricted, "behind": behind,
}


def stands(table, name):
    """What the name stands for, made by the functions of the document."""
    definition = table[name]
    if definition[0] in ("machine", "translation"):
        return definition[1]
    if definition[0] == "expression":
        return to_machine(definition[1], definition[2])
    return MADE[definition[0]](*[stands(table, used) for used in names_of(definition)])


def told(call, *arguments):
    """What the call returns, or the name of its error, with what the error bears."""
    try:
        return call(*arguments)
    except GuardError as error:
        return (type(error).__name__, getattr(error, "name", None), getattr(error, "number", None))


class Answers(DeskCase):
    def test_each_form_of_definition(self):
        desk = Desk.made(FORMS)
        table = dict(FORMS)
        for definition in JOINED:
            desk.put("x", definition)
            table["x"] = definition
            self.agrees(desk, table, "x")
        for name in sorted(table):
            self.agrees(desk, table, name)

    def agrees(self, desk, table, name):
        """The desk answers exactly as the functions do for what stands there."""
        made = stands(table, name)
        kind = desk.role(name)[1]
        words = [()] + [tuple(Drawer(seed, 3).word(kind, seed % 4)) for seed in range(12)]
        if desk.role(name)[0] == "machine":
            self.same(desk.least(name), least(made))
            for word in words:
                self.assertIs(desk.takes(name, word), takes(made, word))
        else:
            for word in words:
                self.same(desk.results(name, word), results(made, word))
        for other in sorted(table):
            if desk.role(other)[:2] == desk.role(name)[:2]:
                if desk.role(name)[0] == "machine":
                    self.same(desk.compare(name, other), compare(made, stands(table, other)))
                else:
                    self.same(told(desk.same, name, other), told(same, made, stands(table, other)))

    def test_what_the_words_say(self):
        desk = Desk.made(FORMS + (("last", ("machine", LAST_EVEN)),))
        for name, definition, words, wanted in (
            ("x", ("both", "a", "e"), ((), (2,), (-2,), (-3,), (-2, 4)), (True, False, True, False, False)),
            ("x", ("either", "a", "e"), ((), (2,), (-2,), (-3,), (1,), (-3, 4)), (True, True, True, True, False, False)),
            ("x", ("other", "a"), ((), (2,), (3,), (2, 3)), (False, False, True, True)),
            ("x", ("then", "e", "a"), ((), (-3, 4), (4, -3), (-2, -2, 3)), (True, True, False, False)),
            ("x", ("star", "last"), ((), (3,), (3, 4), (3, 4, 5, 6)), (True, False, True, True)),
            ("x", ("back", "last"), ((), (3,), (3, 4), (4, 3)), (False, False, False, True)),
            ("x", ("domain", "t"), ((), (2,), (2, 3), (3, 2)), (True, True, True, False)),
            ("x", ("inverse", "n", "last"), ((), (2,), (3, 2), (2, 3)), (False, True, True, False)),
        ):
            desk.put(name, definition)
            self.same(tuple(desk.takes(name, word) for word in words), wanted)
        desk.put("x", ("image", "t", "a"))
        self.same([desk.takes("x", word) for word in ((), (("pair", "red", 3),), (("pair", "red", 4),), (("pair", "blue", 0),))], [True, True, False, False])
        desk.put("x", ("restricted", "t", "last"))
        self.same((desk.results("x", (2, 3)), desk.results("x", (2, 4))), ((), ((("pair", "red", 3), ("pair", "red", 5)),)))
        desk.put("x", ("behind", "t", "u"))
        self.same((desk.results("x", (2, 3)), desk.results("x", (3, 2))), (((3, 0),), ()))

    def test_compare_same_and_leads(self):
        desk = Desk.made(FORMS)
        desk.put("last", ("machine", LAST_EVEN))
        self.same((desk.compare("a", "last"), desk.compare("a", "a"), desk.compare("a", "e")), ((), None, (0,)))
        self.same((desk.leads("t", "a", "p"), desk.leads("n", "a", "a"), desk.leads("n", "e", "a"), desk.leads("n", "last", "last")), (None, None, (-1,), None))
        desk.drop("last")
        desk.put("x", ("restricted", "n", "a"))
        self.same((desk.same("n", "x"), desk.same("n", "n"), desk.same("x", "n")), ((1,), None, (1,)))

    def test_behind_a_name_that_is_defined_anew(self):
        desk = Desk.made((("a", A), ("b", ("other", "a")), ("t", T), ("r", ("restricted", "t", "b")), ("d", ("domain", "r"))))
        self.same((desk.takes("b", (3,)), desk.takes("d", (3,)), desk.results("r", (3,)), desk.results("r", (2,))), (True, True, ((3,),), ()))
        before = (desk.least("b"), desk.least("d"))
        desk.put("a", ("machine", LAST_EVEN))
        self.same((desk.takes("b", (3,)), desk.takes("b", (3, 2)), desk.takes("d", ()), desk.results("r", (2,))), (True, False, True, ()))
        self.same(desk.least("d"), least(not_taken(LAST_EVEN)))
        desk.put("t", ("translation", (INTEGERS, INTEGERS, 1, (0,), ((0, (9,)),), ((0, TRUE, (("minus", (), 0),), 0),))))
        self.same(desk.results("r", (2, 3)), ((-2, -3, 9),))
        self.same(desk.undo(many=2), ("t", "a"))
        self.same((desk.least("b"), desk.least("d"), desk.results("r", (3,))), before + (((3,),),))

    def test_behind_a_name_that_is_dropped_and_put_again(self):
        desk = Desk.made((("a", A), ("b", ("star", "a"))))
        self.same(desk.takes("b", (2,)), True)
        desk.drop("b")
        with self.refuses(UnknownName):
            desk.takes("b", (2,))
        desk.put("b", ("other", "a"))
        self.same(desk.takes("b", (2,)), False)
        desk.undo()
        desk.undo()
        self.same(desk.takes("b", (2,)), True)
        # Also behind a refused change.
        self.refused(desk, WrongUse, desk.put, "b", ("domain", "a"), name="a")
        self.same(desk.takes("b", (2,)), True)

    def test_a_chain_of_weight_six(self):
        desk = Desk.made((("t", ("translation", MARKED)), ("u", ("translation", SECONDS)), ("tu", ("behind", "t", "u")), ("tt", ("behind", "tu", "t")),
                          ("d", ("domain", "tt"))))
        self.same((desk.weight("tt"), desk.weight("d")), (5, 6))
        self.same((desk.results("tt", (3,)), desk.results("tt", (2,)), desk.results("tt", (2, 3))), (((("pair", "red", 1),),), ((("pair", "blue", 0),),), ()))
        self.same(desk.least("d"), least(domain(behind(behind(MARKED, SECONDS), MARKED))))
        desk = Desk.made((("a", ("machine", LAST_EVEN)), ("b", ("star", "a")), ("c", ("other", "b")), ("d", ("back", "c")), ("e", ("star", "d")), ("f", ("other", "e"))))
        self.same(desk.weight("f"), 6)
        self.same(desk.least("f"), least(not_taken(repeated(backwards(not_taken(repeated(LAST_EVEN)))))))
        desk = Desk.made((("a", A), ("t", T), ("u", ("behind", "t", "t")), ("i", ("image", "u", "a")), ("s", ("star", "i"))))
        self.same((desk.weight("s"), desk.compare("s", "a")), (6, None))
        desk = Desk.made((("a", A), ("t", T), ("i", ("image", "t", "a")), ("o", ("then", "i", "a")), ("b", ("back", "o"))))
        self.same((desk.weight("b"), desk.compare("b", "a")), (6, None))
        desk = Desk.made((("a", A), ("t", ("translation", TWICE)), ("u", ("behind", "t", "t")), ("i", ("inverse", "u", "a")), ("o", ("other", "i"))))
        self.same((desk.weight("o"), desk.takes("o", (3, 2)), desk.takes("o", (4, 2)), desk.compare("i", "a")), (6, True, False, None))

    def test_by_chance(self):
        seen = {"machine": 0, "translation": 0, "leads": 0}
        for seed in range(200):
            chance = Drawer(seed, 1)
            desk, table = Desk(), {}
            for _ in range(16):
                name, definition = chance.choice("abcdefgh"), chance.definition(table)
                if refusal(table, name, definition) is None:
                    desk.put(name, definition)
                    table[name] = definition
            for name in sorted(table):
                if names_of(table[name]):
                    self.agrees(desk, table, name)
                    self.words_agree(chance, desk, table, name)
                    seen[desk.role(name)[0]] += 1
            for _ in range(6):
                names = [chance.choice(sorted(table)) for _ in range(3)]
                if [desk.role(name)[0] for name in names] == ["translation", "machine", "machine"]:
                    seen["leads"] += 1
                    self.same(told(desk.leads, *names), told(leads, *[stands(table, name) for name in names]))
        self.assertGreater(min(seen.values()), 20, seen)

    def words_agree(self, chance, desk, table, name):
        """What is told of the words is what the words of the document say, word by word."""
        for word in short_words(chance, desk.role(name)[1], 2):
            if desk.role(name)[0] == "machine":
                wanted = self.meant(table, name, word)
                if wanted is not None:
                    self.assertIs(desk.takes(name, word), wanted)
            else:
                self.same(desk.results(name, word), self.results_meant(table, name, word))

    def meant(self, table, name, word):
        """Whether the word is in the language; None where this is not worked out."""
        definition = table[name]
        match definition:
            case ("machine", machine):
                return naive.taken(machine, word)
            case ("both", a, b):
                return self.of_two(all, table, (a, word), (b, word))
            case ("either", a, b):
                return self.of_two(any, table, (a, word), (b, word))
            case ("other", a):
                inner = self.meant(table, a, word)
                return None if inner is None else not inner
            case ("back", a):
                return self.meant(table, a, word[::-1])
            case ("then", a, b):
                parts = [self.of_two(all, table, (a, word[:at]), (b, word[at:])) for at in range(len(word) + 1)]
                return None if None in parts else any(parts)
            case ("domain", t):
                return self.results_meant(table, t, word) != ()
            case ("inverse", t, a):
                parts = [self.meant(table, a, result) for result in self.results_meant(table, t, word)]
                return None if None in parts else any(parts)
        return None

    def of_two(self, joined, table, one, other):
        parts = [self.meant(table, *one), self.meant(table, *other)]
        return None if None in parts else joined(parts)

    def results_meant(self, table, name, word):
        match table[name]:
            case ("translation", translation):
                return translations.results(translation, word)
            case ("restricted", t, a):
                return self.results_meant(table, t, word) if takes(stands(table, a), word) else ()
            case ("behind", t, u):
                other = stands(table, u)[1]
                found = {one for middle in self.results_meant(table, t, word) for one in self.results_meant(table, u, middle)}
                return tuple(sorted(found, key=lambda one: word_key(other, one)))
        raise AssertionError(table[name])


class Refusals(DeskCase):
    def desk(self):
        return Desk.made(FORMS + (("g", ("translation", GUESS)),))

    def test_unknown_names_from_left_to_right(self):
        desk = self.desk()
        for call, arguments, name in (
            (desk.least, ("x",), "x"), (desk.takes, ("x", ("bad",)), "x"), (desk.results, ("x", ("bad",)), "x"), (desk.compare, ("a", "x"), "x"),
            (desk.compare, ("x", "y"), "x"), (desk.compare, ("t", "x"), "x"), (desk.same, ("a", "x"), "x"), (desk.same, ("y", "x"), "y"),
            (desk.leads, ("x", "y", "z"), "x"), (desk.leads, ("a", "y", "z"), "y"), (desk.leads, ("a", "t", "z"), "z"),
        ):
            self.refused(desk, UnknownName, call, *arguments, name=name)

    def test_wrong_uses_from_left_to_right(self):
        desk = self.desk()
        for call, arguments, name in (
            (desk.least, ("t",), "t"), (desk.takes, ("t", ("bad",)), "t"), (desk.results, ("a", ("bad",)), "a"), (desk.compare, ("a", "t"), "t"),
            (desk.compare, ("t", "u"), "t"), (desk.compare, ("c", "t"), "t"), (desk.same, ("a", "t"), "a"), (desk.same, ("t", "a"), "a"), (desk.same, ("a", "c"), "a"),
            (desk.same, ("g", "a"), "a"), (desk.leads, ("a", "t", "t"), "a"), (desk.leads, ("t", "t", "a"), "t"), (desk.leads, ("t", "c", "u"), "u"), (desk.leads, ("t", "a", "n"), "n"),
        ):
            self.refused(desk, WrongUse, call, *arguments, name=name)

    def test_other_kinds(self):
        desk = self.desk()
        for call, arguments in (
            (desk.compare, ("a", "c")), (desk.compare, ("p", "a")), (desk.same, ("t", "u")), (desk.same, ("t", "n")), (desk.same, ("g", "t")), (desk.same, ("t", "g")),
            (desk.leads, ("t", "p", "p")), (desk.leads, ("t", "a", "a")), (desk.leads, ("n", "c", "a")), (desk.leads, ("n", "a", "c")), (desk.leads, ("u", "a", "p")),
        ):
            self.refused(desk, OtherKinds, call, *arguments)

    def test_not_single(self):
        desk = self.desk()
        for names, number in ((("g", "n"), 0), (("n", "g"), 1), (("g", "g"), 0)):
            self.refused(desk, NotSingle, desk.same, *names)
            with self.assertRaises(NotSingle) as caught:
                desk.same(*names)
            self.same(caught.exception.number, number)

    def test_bad_letters(self):
        desk = self.desk()
        for word in (("red",), (2, ("none",)), (3, 3, "red")):
            self.refused(desk, BadLetter, desk.takes, "a", word)
            self.refused(desk, BadLetter, desk.results, "t", word)
            self.refused(desk, BadLetter, desk.takes, "c", ("red",) + word + (1,))
        desk.put("x", ("both", "a", "e"))
        self.refused(desk, BadLetter, desk.takes, "x", (1, "red"))
        desk.put("x", ("restricted", "t", "a"))
        self.refused(desk, BadLetter, desk.results, "x", (1, "red"))


class PassedOn(DeskCase):
    def test_returned_things_are_put(self):
        for seed in range(60):
            chance = Drawer(seed, 1)
            first, second = chance.translation(INTEGERS, INTEGERS, 2, 3), chance.translation(INTEGERS, INTEGERS, 2, 3)
            machine = chance.machine(INTEGERS, many=3)
            desk = Desk.made((("t", ("translation", first)), ("u", ("translation", second)), ("a", ("machine", machine))))
            desk.put("x", ("behind", "t", "u"))
            desk.put("y", ("translation", behind(first, second)))
            desk.put("b", ("machine", desk.least("a")))
            self.assertIsNone(desk.compare("a", "b"))
            self.same(told(desk.same, "x", "y"), told(same, behind(first, second), behind(first, second)))
            word = first_word(machine)
            if word is not None:
                self.same(desk.results("x", word), desk.results("y", word))
                self.assertIs(desk.takes("b", word), True)

    def test_the_same_question_has_the_same_answer(self):
        desk = Desk.made(FORMS)
        asked = [(desk.least, "a"), (desk.takes, "e", (-1, 2)), (desk.results, "t", (2, 3)), (desk.compare, "a", "e"), (desk.same, "n", "n"), (desk.leads, "n", "a", "a"),
                 (desk.definition, "t"), (desk.role, "t"), (desk.weight, "t"), (desk.users, "t")]
        before = [question[0](*question[1:]) for question in asked]
        state = self.state(desk)
        self.same([question[0](*question[1:]) for question in asked[::-1]][::-1], before)
        self.same(self.state(desk), state)
        desk.put("x", ("image", "t", "a"))
        desk.undo()
        self.same([question[0](*question[1:]) for question in asked], before)
        self.assertEqual((EVENS, REDS, COPY), (A[1], dict(FORMS)["c"][1], T[1]))
        self.same(one_step(INTEGERS, INTEGERS, TRUE, (READ,)), COPY)


if __name__ == "__main__":
    unittest.main()

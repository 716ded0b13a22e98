"""The desk: [7], [220], [221], [222], [223] and the interface of desks.py."""

import unittest

from guardwords import errors
from guardwords.desks import Desk
from guardwords.errors import (
    BadCondition, BadLetter, BadTerm, Circle, InUse, NothingToUndo, TooLarge, UnknownName, Unread, WrongUse,
)
from tests import naive_desks as naive
from tests.naive_desks import NAMES, Drawer
from tests.support import COLOURS, INTEGERS, NUMBERED, TAGGED, Case

TRUE = ("true",)
EVEN = ("mod", 2, 0)
ODD = ("not", EVEN)
READ = ("read", ())
STAMPED = ("pair", ("always", "red"), ("plus", (), 1))
INNER = ("read", ("second", "some"))
MARKED = (INTEGERS, NUMBERED, 2, (0,), ((0, ()), (1, (("pair", "blue", 0),))), ((0, EVEN, (STAMPED,), 0), (0, ODD, (), 1)))
SECONDS = (NUMBERED, INTEGERS, 1, (0,), ((0, ()),), ((0, TRUE, (("read", ("second",)),), 0),))
TWICE = (INTEGERS, INTEGERS, 1, (0,), ((0, ()),), ((0, TRUE, (READ, READ), 0),))
COPY = (INTEGERS, INTEGERS, 1, (0,), ((0, ()),), ((0, TRUE, (READ,), 0),))
EVENS = (INTEGERS, 1, (0,), (0,), ((0, EVEN, 0),))
LAST_EVEN = (INTEGERS, 2, (0,), (1,), ((0, TRUE, 0), (0, EVEN, 1)))
REDS = (COLOURS, 1, (0,), (0,), ((0, ("is", "red"), 0),))
PAIRS = (NUMBERED, 1, (0,), (0,), ((0, TRUE, 0),))
A, T = ("machine", EVENS), ("translation", COPY)
# A definition of each form, in an order in which they can be put.
FORMS = (
    ("a", A), ("e", ("expression", INTEGERS, ("star", ("letter", ("<", 0))))), ("t", ("translation", MARKED)), ("u", ("translation", SECONDS)),
    ("p", ("machine", PAIRS)), ("n", ("translation", TWICE)), ("c", ("machine", REDS)),
)
JOINED = {
    ("both", "a", "e"): ("machine", INTEGERS), ("either", "e", "a"): ("machine", INTEGERS), ("other", "c"): ("machine", COLOURS),
    ("then", "a", "a"): ("machine", INTEGERS), ("star", "p"): ("machine", NUMBERED), ("back", "c"): ("machine", COLOURS),
    ("domain", "t"): ("machine", INTEGERS), ("domain", "u"): ("machine", NUMBERED), ("inverse", "t", "p"): ("machine", INTEGERS),
    ("inverse", "n", "e"): ("machine", INTEGERS), ("image", "t", "e"): ("machine", NUMBERED), ("image", "u", "p"): ("machine", INTEGERS),
    ("restricted", "t", "a"): ("translation", INTEGERS, NUMBERED, True), ("restricted", "n", "e"): ("translation", INTEGERS, INTEGERS, False),
    ("behind", "t", "u"): ("translation", INTEGERS, INTEGERS, True), ("behind", "u", "t"): ("translation", NUMBERED, NUMBERED, True),
    ("behind", "n", "t"): ("translation", INTEGERS, NUMBERED, False), ("behind", "u", "n"): ("translation", NUMBERED, INTEGERS, False),
}


class DeskCase(Case):
    def state(self, desk):
        """All that the desk tells of itself."""
        names = list(desk)
        self.assertEqual(names, sorted(names))
        self.assertEqual(len(desk), len(names))
        for name in list(NAMES) + ["zz", ""]:
            self.assertIs(name in desk, name in names)
        told = [(desk.definition(name), desk.role(name), desk.weight(name), desk.users(name)) for name in names]
        return (tuple(names), tuple(told), desk.log)

    def refused(self, desk, error, call, *arguments, name=None, **more):
        """The call is refused with this error, which bears the name, and the desk is as it was."""
        before = self.state(desk)
        with self.refuses(error):
            call(*arguments, **more)
        if name is not None:
            with self.assertRaises(error) as caught:
                call(*arguments, **more)
            self.same(caught.exception.name, name)
        self.same(self.state(desk), before)


class Put(DeskCase):
    def test_each_form_of_definition(self):
        desk = Desk()
        for name, definition in FORMS:
            self.assertIsNone(desk.put(name, definition))
            self.same((desk.definition(name), desk.weight(name), desk.users(name)), (definition, 1, ()))
        self.same([desk.role(name) for name, _ in FORMS], [
            ("machine", INTEGERS), ("machine", INTEGERS), ("translation", INTEGERS, NUMBERED, True), ("translation", NUMBERED, INTEGERS, True),
            ("machine", NUMBERED), ("translation", INTEGERS, INTEGERS, False), ("machine", COLOURS)])
        for definition, role in JOINED.items():
            self.assertIsNone(desk.put("x", definition))
            self.same((desk.definition("x"), desk.role("x"), desk.weight("x")), (definition, role, len(definition)))
            for name in definition[1:]:
                self.same(desk.users(name), ("x",))

    def test_a_given_thing_that_is_wrong(self):
        desk = Desk()
        wrong = one_step(TAGGED, INTEGERS, TRUE, (INNER,))
        for error, definition in (
            (BadCondition, ("machine", (INTEGERS, 1, (0,), (), ((0, ("is", "red"), 0),)))), (BadCondition, ("expression", COLOURS, ("star", ("letter", EVEN)))),
            (BadCondition, ("translation", one_step(INTEGERS, INTEGERS, ("none",), ()))), (BadTerm, ("translation", one_step(INTEGERS, COLOURS, TRUE, (READ,)))),
            (BadLetter, ("translation", one_step(INTEGERS, INTEGERS, TRUE, (), ((0, ("red",)),)))), (Unread, ("translation", wrong)),
        ):
            self.refused(desk, error, desk.put, "a", definition)
        with self.assertRaises(Unread) as caught:
            desk.put("a", ("translation", wrong))
        self.same((caught.exception.step, caught.exception.letter), (0, ("pair", "red", ("none",))))
        self.same((len(desk), desk.log), (0, ()))

    def test_what_is_given_wrong_comes_before_in_use(self):
        desk = Desk.made((("a", A), ("b", ("star", "a"))))
        self.refused(desk, BadCondition, desk.put, "a", ("machine", (COLOURS, 1, (0,), (), ((0, EVEN, 0),))))
        self.refused(desk, BadTerm, desk.put, "a", ("translation", one_step(INTEGERS, COLOURS, TRUE, (READ,))))
        self.refused(desk, InUse, desk.put, "a", ("machine", REDS), name="b")

    def test_unknown_names(self):
        desk = Desk.made((("a", A), ("t", T)))
        for definition, name in (
            (("both", "a", "x"), "x"), (("both", "x", "a"), "x"), (("both", "y", "x"), "y"), (("star", "x"), "x"), (("domain", "x"), "x"),
            (("inverse", "t", "x"), "x"), (("image", "x", "y"), "x"), (("behind", "t", "x"), "x"), (("restricted", "x", "a"), "x"),
            (("star", "b"), "b"), (("then", "a", "b"), "b"),
            # Before Circle, TooLarge, WrongUse and InUse.
            (("both", "b", "x"), "b"), (("both", "t", "x"), "x"), (("behind", "a", "x"), "x"),
        ):
            self.refused(desk, UnknownName, desk.put, "b", definition, name=name)
        desk.put("b", ("star", "a"))
        self.refused(desk, UnknownName, desk.put, "b", ("both", "b", "x"), name="x")
        self.refused(desk, UnknownName, desk.put, "a", ("domain", "x"), name="x")

    def test_circles(self):
        desk = Desk.made((("a", A), ("b", ("star", "a")), ("c", ("other", "b")), ("t", T), ("r", ("restricted", "t", "b"))))
        for name, definition in (
            ("a", ("star", "a")), ("a", ("star", "b")), ("a", ("star", "c")), ("a", ("both", "c", "a")), ("b", ("other", "c")), ("c", ("back", "c")),
            ("a", ("domain", "r")), ("t", ("behind", "r", "r")), ("t", ("restricted", "t", "a")), ("b", ("inverse", "r", "a")),
            # Before TooLarge, WrongUse and InUse.
            ("t", ("both", "r", "c")), ("a", ("behind", "r", "t")), ("t", ("domain", "t")), ("a", ("both", "t", "b")),
        ):
            self.refused(desk, Circle, desk.put, name, definition)
        self.assertIsNone(desk.put("d", ("then", "b", "b")))
        self.assertIsNone(desk.put("b", ("star", "a")))

    def test_weights_of_six_and_seven(self):
        desk = Desk.made((("a", A), ("b", ("both", "a", "a")), ("c", ("star", "b")), ("d", ("star", "c")), ("e", ("star", "d"))))
        self.same([desk.weight(name) for name in desk], [1, 3, 4, 5, 6])
        self.refused(desk, TooLarge, desk.put, "f", ("star", "e"), name="f")
        self.refused(desk, TooLarge, desk.put, "f", ("both", "b", "b"), name="f")
        self.refused(desk, TooLarge, desk.put, "f", ("then", "d", "a"), name="f")
        self.assertIsNone(desk.put("f", ("then", "c", "a")))
        self.same(desk.weight("f"), 6)

    def test_a_name_that_uses_it_becomes_too_large(self):
        desk = Desk.made((("m", A), ("z", ("star", "m")), ("b", ("star", "z")), ("a", ("both", "b", "m")), ("x", A), ("w", ("both", "x", "x"))))
        self.same([desk.weight(name) for name in desk], [5, 3, 1, 3, 1, 2])
        self.refused(desk, TooLarge, desk.put, "m", ("star", "x"), name="a")
        self.refused(desk, TooLarge, desk.put, "z", ("star", "w"), name="a")
        self.assertIsNone(desk.put("z", ("both", "m", "x")))
        self.same(desk.weight("a"), 6)
        desk.drop("a")
        self.assertIsNone(desk.put("m", ("star", "x")))
        self.same([desk.weight(name) for name in desk], [5, 2, 3, 1, 4])

    def test_the_first_of_all_names_is_told(self):
        desk = Desk.made((("m", A), ("c", ("both", "m", "m")), ("d", ("star", "c")), ("e", ("star", "d")), ("b", ("star", "e")), ("y", ("both", "m", "m"))))
        self.refused(desk, TooLarge, desk.put, "c", ("both", "y", "m"), name="b")
        self.refused(desk, TooLarge, desk.put, "a", ("both", "y", "y"), name="a")
        self.refused(desk, TooLarge, desk.put, "f", ("both", "y", "y"), name="f")
        desk.drop("b")
        self.refused(desk, TooLarge, desk.put, "c", ("both", "y", "m"), name="e")

    def test_too_large_comes_before_wrong_use_and_in_use(self):
        desk = Desk.made((("a", A), ("b", ("both", "a", "a")), ("c", ("star", "b")), ("d", ("star", "c")), ("t", T), ("r", ("domain", "t"))))
        self.refused(desk, TooLarge, desk.put, "x", ("both", "d", "t"), name="x")
        self.refused(desk, TooLarge, desk.put, "x", ("inverse", "d", "b"), name="x")
        self.refused(desk, TooLarge, desk.put, "t", ("both", "c", "b"), name="r")
        self.refused(desk, InUse, desk.put, "t", ("star", "b"), name="r")

    def test_wrong_uses(self):
        desk = Desk.made(FORMS)
        for definition, name in (
            (("both", "t", "a"), "t"), (("both", "a", "t"), "t"), (("both", "a", "c"), "c"), (("either", "c", "a"), "a"), (("then", "p", "a"), "a"),
            (("both", "t", "u"), "t"), (("other", "t"), "t"), (("star", "u"), "u"), (("back", "n"), "n"), (("domain", "a"), "a"),
            (("inverse", "a", "a"), "a"), (("inverse", "t", "a"), "a"), (("inverse", "t", "u"), "u"), (("inverse", "a", "t"), "a"),
            (("image", "n", "a"), "n"), (("image", "a", "a"), "a"), (("image", "t", "p"), "p"), (("image", "t", "t"), "t"), (("image", "n", "c"), "n"),
            (("restricted", "a", "t"), "a"), (("restricted", "t", "p"), "p"), (("restricted", "t", "u"), "u"), (("restricted", "t", "c"), "c"),
            (("behind", "t", "t"), "t"), (("behind", "a", "t"), "a"), (("behind", "t", "a"), "a"), (("behind", "u", "u"), "u"), (("behind", "t", "n"), "n"),
        ):
            self.refused(desk, WrongUse, desk.put, "x", definition, name=name)

    def test_wrong_use_comes_before_in_use(self):
        desk = Desk.made(FORMS + (("x", ("star", "a")),))
        self.refused(desk, WrongUse, desk.put, "a", ("both", "e", "c"), name="c")
        self.refused(desk, WrongUse, desk.put, "a", ("domain", "e"), name="e")
        self.refused(desk, InUse, desk.put, "a", ("domain", "u"), name="x")
        self.assertIsNone(desk.put("a", ("domain", "t")))

    def test_names_in_another_order_are_another_kind(self):
        turned = ("names", ("blue", "red"))
        desk = Desk.made((("a", ("machine", REDS)), ("b", ("machine", (turned, 1, (0,), (), ()))), ("t", ("translation", one_step(COLOURS, turned, TRUE, ()))),
                          ("u", ("translation", one_step(COLOURS, COLOURS, TRUE, ())))))
        for definition, name in ((("both", "a", "b"), "b"), (("inverse", "t", "a"), "a"), (("image", "t", "b"), "b"), (("behind", "t", "u"), "u")):
            self.refused(desk, WrongUse, desk.put, "x", definition, name=name)
        self.assertIsNone(desk.put("x", ("inverse", "t", "b")))
        self.assertIsNone(desk.put("x", ("behind", "u", "t")))

    def test_a_role_that_changes_with_and_without_users(self):
        desk = Desk.made((("a", A), ("t", T)))
        self.assertIsNone(desk.put("a", ("machine", REDS)))
        self.assertIsNone(desk.put("a", T))
        self.assertIsNone(desk.put("a", A))
        for name in ("y", "x"):
            desk.put(name, ("restricted", "t", "a"))
        self.refused(desk, InUse, desk.put, "a", ("machine", REDS), name="x")
        self.refused(desk, InUse, desk.put, "a", T, name="x")
        self.refused(desk, InUse, desk.put, "t", A, name="x")
        # Plain is a part of the role.
        self.refused(desk, InUse, desk.put, "t", ("translation", TWICE), name="x")
        self.refused(desk, InUse, desk.put, "t", ("translation", MARKED), name="x")
        self.assertIsNone(desk.put("t", ("translation", one_step(INTEGERS, INTEGERS, TRUE, ()))))
        self.assertIsNone(desk.put("a", ("expression", INTEGERS, ("void",))))
        desk.drop("x")
        self.refused(desk, InUse, desk.put, "t", ("translation", TWICE), name="y")
        desk.drop("y")
        self.assertIsNone(desk.put("t", ("translation", TWICE)))
        # The names that use it by another one alone do not count.
        desk = Desk.made((("a", A), ("c", ("star", "a")), ("b", ("star", "c"))))
        self.refused(desk, InUse, desk.put, "a", ("machine", REDS), name="c")

    def test_the_same_definition_again_is_a_change(self):
        desk = Desk.made((("a", A), ("a", A), ("a", A)))
        self.same((desk.log, len(desk)), ((("put", "a", A),) * 3, 1))
        self.same((desk.undo(), desk.log, tuple(desk)), (("a",), (("put", "a", A),) * 2, ("a",)))


def one_step(kind, other, condition, terms, ends=((0, ()),)):
    return (kind, other, 1, (0,), ends, ((0, condition, terms, 0),))


class Drop(DeskCase):
    def test_unknown_and_in_use(self):
        desk = Desk.made((("a", A), ("t", T), ("c", ("restricted", "t", "a")), ("b", ("both", "a", "a"))))
        self.refused(desk, UnknownName, desk.drop, "x", name="x")
        self.refused(desk, InUse, desk.drop, "a", name="b")
        self.refused(desk, InUse, desk.drop, "t", name="c")
        self.assertIsNone(desk.drop("b"))
        self.refused(desk, InUse, desk.drop, "a", name="c")
        self.refused(desk, UnknownName, desk.drop, "b", name="b")
        self.assertIsNone(desk.drop("c"))
        self.assertIsNone(desk.drop("a"))
        self.same((tuple(desk), desk.log[-3:]), (("t",), (("drop", "b"), ("drop", "c"), ("drop", "a"))))
        desk.drop("t")
        self.same((len(desk), tuple(desk), "t" in desk, len(desk.log)), (0, (), False, 8))
        self.refused(Desk(), UnknownName, Desk().drop, "a", name="a")


class Undo(DeskCase):
    def test_one_many_and_all(self):
        desk = Desk()
        states = [self.state(desk)]
        calls = [("put", "a", A), ("put", "b", ("star", "a")), ("put", "a", ("machine", LAST_EVEN)), ("put", "t", T), ("drop", "b"), ("put", "b", T),
                 ("drop", "t"), ("put", "a", ("machine", REDS)), ("drop", "a")]
        for many in (1, 2, 3, len(calls)):
            for call in calls[len(states) - 1:]:
                desk.drop(call[1]) if call[0] == "drop" else desk.put(call[1], call[2])
                states.append(self.state(desk))
            self.same(desk.undo(many=many), tuple(call[1] for call in calls[::-1][:many]))
            del states[len(states) - many:]
            self.same(self.state(desk), states[-1])
        self.same((self.state(desk), len(desk.log)), (states[0], 0))

    def test_one_too_many(self):
        desk = Desk()
        for many in (1, 2, 40):
            self.refused(desk, NothingToUndo, desk.undo, many=many)
        self.refused(desk, NothingToUndo, desk.undo)
        desk.put("a", A)
        desk.put("b", ("star", "a"))
        for many in (3, 40):
            self.refused(desk, NothingToUndo, desk.undo, many=many)
        self.same(desk.undo(many=2), ("b", "a"))
        self.refused(desk, NothingToUndo, desk.undo)

    def test_forty_at_once(self):
        desk = Desk.made((("a", A), ("b", ("star", "a"))))
        before = self.state(desk)
        for k in range(20):
            desk.put("c", ("other", "b") if k % 2 else ("machine", EVENS))
            desk.put("a", ("machine", LAST_EVEN if k % 2 else EVENS))
        self.same(desk.undo(many=40), ("a", "c") * 20)
        self.same(self.state(desk), before)
        self.refused(desk, NothingToUndo, desk.undo, many=40)
        self.same(desk.undo(many=2), ("b", "a"))

    def test_what_was_defined_anew_is_as_it_was(self):
        desk = Desk.made((("a", A), ("b", ("star", "a"))))
        desk.put("a", ("expression", INTEGERS, ("letter", ODD)))
        self.same((desk.takes("b", (1, 3)), desk.takes("b", (2,))), (True, False))
        self.same(desk.undo(), ("a",))
        self.same((desk.definition("a"), desk.takes("b", (1, 3)), desk.takes("b", (2,))), (A, False, True))

    def test_a_changed_desk_goes_on_behind_undo(self):
        desk = Desk.made((("a", A), ("b", ("star", "a"))))
        desk.undo()
        desk.put("a", T)
        self.same((desk.log, desk.role("a")), ((("put", "a", A), ("put", "a", T)), ("translation", INTEGERS, INTEGERS, True)))
        self.same(desk.undo(many=2), ("a", "a"))


class Made(DeskCase):
    def test_as_put_one_after_another(self):
        self.same(self.state(Desk.made(())), self.state(Desk()))
        made, put = Desk.made(FORMS), Desk()
        for name, definition in FORMS:
            put.put(name, definition)
        self.assertIsInstance(made, Desk)
        self.same(self.state(made), self.state(put))
        self.same(made.log, tuple(("put", name, definition) for name, definition in FORMS))
        again = Desk.made((("a", A), ("b", ("star", "a")), ("a", ("machine", LAST_EVEN))))
        self.same((tuple(again), again.definition("a"), len(again.log)), (("a", "b"), ("machine", LAST_EVEN), 3))

    def test_refusals(self):
        for error, pairs, name in (
            (UnknownName, (("b", ("star", "a")), ("a", A)), "a"), (Circle, (("a", A), ("a", ("star", "a"))), None), (WrongUse, (("a", A), ("b", ("domain", "a"))), "a"),
            (InUse, (("a", A), ("b", ("star", "a")), ("a", T)), "b"), (TooLarge, (("a", A), ("b", ("both", "a", "a")), ("c", ("both", "b", "b"))), "c"),
            (BadTerm, (("t", ("translation", one_step(INTEGERS, COLOURS, TRUE, (READ,)))),), None),
        ):
            with self.refuses(error):
                Desk.made(pairs)
            with self.assertRaises(error) as caught:
                Desk.made(pairs)
            if name is not None:
                self.same(caught.exception.name, name)

    def test_two_desks_do_not_share(self):
        one, other = Desk.made((("a", A),)), Desk.made((("a", T),))
        one.put("b", ("star", "a"))
        self.same((tuple(one), tuple(other), other.role("a")[0], len(Desk())), (("a", "b"), ("a",), "translation", 0))


class Told(DeskCase):
    def test_unknown_names(self):
        desk = Desk.made((("a", A),))
        for call in (desk.definition, desk.role, desk.weight, desk.users):
            self.refused(desk, UnknownName, call, "x", name="x")
            self.refused(Desk(), UnknownName, getattr(Desk(), call.__name__), "a", name="a")

    def test_users(self):
        desk = Desk.made((("a", A), ("t", T), ("d", ("both", "a", "a")), ("c", ("restricted", "t", "a")), ("b", ("star", "d"))))
        self.same([desk.users(name) for name in "abcdt"], [("c", "d"), (), (), ("b",), ("c",)])
        desk.put("d", ("other", "a"))
        self.same(desk.users("a"), ("c", "d"))
        desk.put("d", A)
        self.same((desk.users("a"), desk.users("d")), (("c",), ("b",)))

    def test_iteration(self):
        desk = Desk.made((("c", A), ("a", A), ("zz", T), ("b", A), ("aa", A), ("z", A)))
        self.same(list(desk), ["a", "aa", "b", "c", "z", "zz"])
        self.same([name for name in desk], sorted(desk))
        self.same(("aa" in desk, "ab" in desk, len(desk)), (True, False, 6))
        desk.drop("b")
        self.same(tuple(desk), ("a", "aa", "c", "z", "zz"))

    def test_the_log_is_a_tuple_that_stays_as_it_was(self):
        desk = Desk.made((("a", A),))
        log = desk.log
        desk.put("b", ("star", "a"))
        self.same((log, desk.log), ((("put", "a", A),), (("put", "a", A), ("put", "b", ("star", "a")))))

    def test_by_chance(self):
        seen = {}
        for seed in range(60):
            chance = Drawer(seed, 1)
            desk, tables, log = Desk(), [{}], []
            for _ in range(45):
                table = tables[-1]
                change = self.changed(chance, desk, table)
                wanted = self.wanted(table, log, change)
                found = self.called(desk, change)
                self.same(found, wanted)
                seen[found[0]] = seen.get(found[0], 0) + 1
                if found[0] == "done" and change[0] == "undo":
                    del tables[len(tables) - change[1]:], log[len(log) - change[1]:]
                elif found[0] == "done":
                    log.append(change)
                    left = {name: told for name, told in table.items() if name != change[1]}
                    tables.append({**left, change[1]: change[2]} if change[0] == "put" else left)
                self.check(desk, tables[-1], log)
        self.assertTrue(all(seen.get(told, 0) > 3 for told in ("done", "UnknownName", "Circle", "TooLarge", "WrongUse", "InUse", "NothingToUndo")), seen)

    def changed(self, chance, desk, table):
        way = chance.random()
        if way < 0.15:
            return ("undo", chance.choice((1, 1, 2, 3, 40)))
        name = chance.choice(sorted(table)) if len(table) == 8 or table and chance.random() < 0.3 else chance.choice(NAMES)
        return ("drop", name) if way < 0.25 else ("put", name, chance.definition(table))

    def wanted(self, table, log, change):
        if change[0] == "undo":
            return ("NothingToUndo", None) if change[1] > len(log) else ("done", tuple(told[1] for told in log[::-1][:change[1]]))
        if change[0] == "drop":
            if change[1] not in table:
                return ("UnknownName", change[1])
            users = naive.users(table, change[1])
            return ("InUse", users[0]) if users else ("done", None)
        return naive.refusal(table, change[1], change[2]) or ("done", None)

    def called(self, desk, change):
        try:
            if change[0] == "undo":
                return ("done", desk.undo(many=change[1]))
            return ("done", desk.drop(change[1]) if change[0] == "drop" else desk.put(change[1], change[2]))
        except errors.GuardError as error:
            return (type(error).__name__, getattr(error, "name", None))

    def check(self, desk, table, log):
        self.same((tuple(desk), len(desk), desk.log), (tuple(sorted(table)), len(table), tuple(log)))
        for name in NAMES:
            self.assertIs(name in desk, name in table)
        for name, definition in table.items():
            found = (desk.definition(name), desk.role(name), desk.weight(name), desk.users(name))
            self.same(found, (definition, naive.role(table, definition), naive.weight(table, name), naive.users(table, name)))


if __name__ == "__main__":
    unittest.main()

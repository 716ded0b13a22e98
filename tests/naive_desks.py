"""A desk by the words of [220] to [223]: what is refused, roles, weights and users; nothing is taken from the package."""

from tests.naive_translations import Writer, paths_of
from tests.support import COLOURS, INTEGERS

GIVEN = ("machine", "expression", "translation")
HEADS = ("both", "either", "other", "then", "star", "back", "domain", "inverse", "image", "restricted", "behind")
ALONE = ("other", "star", "back", "domain")
NAMES = "abcdefgh"


def names_of(definition):
    return () if definition[0] in GIVEN else definition[1:]


def weight(table, name):
    return 1 + sum(weight(table, used) for used in names_of(table[name]))


def role(table, definition):
    head = definition[0]
    if head == "machine":
        return ("machine", definition[1][0])
    if head == "expression":
        return ("machine", definition[1])
    if head == "translation":
        kind, other, steps = definition[1][0], definition[1][1], definition[1][5]
        return ("translation", kind, other, all(sum(len(paths_of(term)) for term in step[2]) < 2 for step in steps))
    roles = [role(table, table[name]) for name in definition[1:]]
    if head in ("domain", "inverse"):
        return ("machine", roles[0][1])
    if head == "image":
        return ("machine", roles[0][2])
    if head == "behind":
        return ("translation", roles[0][1], roles[1][2], roles[0][3] and roles[1][3])
    return roles[0]


def users(table, name):
    return tuple(sorted(other for other in table if name in names_of(table[other])))


def used_by(table, name):
    """All names that the name uses."""
    found = list(names_of(table[name]))
    for used in found:
        found += [more for more in names_of(table[used]) if more not in found]
    return found


def refusal(table, name, definition):
    """The name of the error, and the name that it bears, with which a definition is refused; or None."""
    names = names_of(definition)
    for used in names:
        if used not in table:
            return ("UnknownName", used)
    for used in names:
        if name == used or name in used_by(table, used):
            return ("Circle", None)
    longer = {**table, name: definition}
    for told in sorted(longer):
        if weight(longer, told) > 6:
            return ("TooLarge", told)
    wrong = wrong_use(definition, [role(table, table[used]) for used in names])
    if wrong is not None:
        return ("WrongUse", names[wrong])
    if users(table, name) and role(table, definition) != role(table, table[name]):
        return ("InUse", users(table, name)[0])
    return None


def wrong_use(definition, roles):
    """The place of the first name that does not have the role that is asked for, or None."""
    match definition[0], roles:
        case "both" | "either" | "then", [a, b]:
            return 0 if a[0] != "machine" else 1 if b != ("machine", a[1]) else None
        case "other" | "star" | "back", [a]:
            return 0 if a[0] != "machine" else None
        case "domain", [t]:
            return 0 if t[0] != "translation" else None
        case "inverse", [t, a]:
            return 0 if t[0] != "translation" else 1 if a != ("machine", t[2]) else None
        case "image", [t, a]:
            return 0 if t[0] != "translation" or not t[3] else 1 if a != ("machine", t[1]) else None
        case "restricted", [t, a]:
            return 0 if t[0] != "translation" else 1 if a != ("machine", t[1]) else None
        case "behind", [t, u]:
            return 0 if t[0] != "translation" else 1 if u[0] != "translation" or u[1] != t[2] else None
    return None


class Drawer(Writer):
    """Definitions drawn by chance."""

    def definition(self, table):
        kinds = (INTEGERS, COLOURS)
        way = self.random()
        if way < 0.25:
            return ("machine", self.machine(self.choice(kinds), 3, 4, 2))
        if way < 0.5:
            plain = self.random() < 0.7
            return ("translation", self.translation(self.choice(kinds), self.choice(kinds), 2, 3, 2, most=1, plain=plain))
        if way < 0.55:
            return ("expression", INTEGERS, ("star", ("letter", self.condition(INTEGERS, 3))))
        return self.joined(table, self.choice(HEADS))

    def joined(self, table, head):
        """A definition with this head; mostly with names that have the roles that are asked for."""
        for _ in range(10):
            names = tuple(self.name(table) for _ in range(1 if head in ALONE else 2))
            if self.random() < 0.2 or all(name in table for name in names):
                if self.random() < 0.1 or refusal(table, "zz", (head,) + names) is None:
                    break
        return (head,) + names

    def name(self, table):
        return self.choice(sorted(table)) if table and self.random() < 0.95 else self.choice(NAMES)

"""Definitions on a desk: the names in them, roles, weights, and why one is refused.

A table is a dict with the definition of each name.
"""

from guardwords.errors import Circle, InUse, TooLarge, UnknownName, WrongUse
from guardwords.expressions import check_expression
from guardwords.following import are_plain
from guardwords.machines import check_machine
from guardwords.translations import check_translation

GIVEN = ("machine", "expression", "translation")
OF_TRANSLATIONS = ("domain", "inverse", "image", "restricted", "behind")
MOST_WEIGHT = 6


def names_in(definition):
    """The names in the definition, from left to right."""
    return () if definition[0] in GIVEN else definition[1:]


def check_known(table, names):
    """Raise UnknownName for the first of the names that the table does not have."""
    for name in names:
        if name not in table:
            raise UnknownName(name)


def users_of(table, name):
    """The ascending tuple of the names that use the name directly."""
    return tuple(sorted([user for user, definition in table.items() if name in names_in(definition)]))


def weight_in(table, name):
    """The weight of the definition of the name."""
    names = names_in(table[name])
    return 1 + sum([weight_in(table, used) for used in names])


def role_in(table, name):
    """The role of the name."""
    return _role_by(table, table[name])


def _role_by(table, definition):
    """The role that a definition gives; the table has the names in it."""
    head = definition[0]
    if head == "machine":
        return ("machine", definition[1][0])
    if head == "expression":
        return ("machine", definition[1])
    if head == "translation":
        kind, other = definition[1][:2]
        plain = all([are_plain(terms) for state, condition, terms, target in definition[1][5]])
        return ("translation", kind, other, plain)
    role = role_in(table, definition[1])
    if head in ("domain", "inverse"):
        return ("machine", role[1])
    if head == "image":
        return ("machine", role[2])
    if head == "behind":
        behind = role_in(table, definition[2])
        return ("translation", role[1], behind[2], role[3] and behind[3])
    return role


def check_put(table, name, definition):
    """Raise the error that is told first if the definition is refused under the name."""
    _check_given(definition)
    names = names_in(definition)
    check_known(table, names)
    if any([_uses(table, used, name) for used in names]):
        raise Circle("the name would use itself")
    longer = {**table, name: definition}
    for told in sorted(longer):
        if weight_in(longer, told) > MOST_WEIGHT:
            raise TooLarge(told)
    _check_uses(table, definition)
    users = users_of(table, name)
    if users and role_in(table, name) != _role_by(table, definition):
        raise InUse(users[0])


def _check_given(definition):
    head = definition[0]
    if head == "machine":
        check_machine(definition[1])
    if head == "expression":
        check_expression(definition[1], definition[2])
    if head == "translation":
        check_translation(definition[1])


def _uses(table, name, wanted):
    """Whether the name is the one that is wanted, or uses it."""
    return name == wanted or any([_uses(table, used, wanted) for used in names_in(table[name])])


def _check_uses(table, definition):
    """Raise WrongUse for the first name in the definition that does not have the role that is asked for."""
    head = definition[0]
    names = names_in(definition)
    if not names:
        return
    roles = [role_in(table, name) for name in names]
    if roles[0][0] != ("translation" if head in OF_TRANSLATIONS else "machine") or head == "image" and not roles[0][3]:
        raise WrongUse(names[0])
    if len(names) == 2 and not _goes_with(head, roles[0], roles[1]):
        raise WrongUse(names[1])


def _goes_with(head, role, other):
    """Whether the second name in a definition has the role that is asked for, beside the role of the first one."""
    if head == "behind":
        return other[0] == "translation" and other[1] == role[2]
    return other == ("machine", role[2] if head == "inverse" else role[1])

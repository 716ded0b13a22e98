"""What the names of a table of definitions stand for, and questions about it.

A table is a dict with the definition of each name; a store is a dict that keeps what names stand for.
"""

from guardwords.comparing import compare
from guardwords.defining import check_known, names_in, role_in
from guardwords.differences import same
from guardwords.errors import WrongUse
from guardwords.expressions import to_machine
from guardwords.forms import least
from guardwords.joining import backwards, both_take, followed, not_taken, one_takes, repeated
from guardwords.leading import leads
from guardwords.machines import takes
from guardwords.translations import behind, domain, image, inverse, restricted, results


def asked_for(table, store, roles):
    """What some names stand for, each with the head of the role that is asked for.

    roles has pairs of a name and a head. Raises UnknownName, then WrongUse.
    """
    check_known(table, [name for name, head in roles])
    for name, head in roles:
        if role_in(table, name)[0] != head:
            raise WrongUse(name)
    return [_standing(table, store, name) for name, head in roles]


def _standing(table, store, name):
    """The machine or the translation for which the name stands."""
    if name not in store:
        definition = table[name]
        parts = [_standing(table, store, used) for used in names_in(definition)]
        store[name] = _made_of_two(definition[0], parts) if len(parts) == 2 else _made(definition, parts)
    return store[name]


def _made(definition, parts):
    head = definition[0]
    if head in ("machine", "translation"):
        return definition[1]
    if head == "expression":
        return to_machine(definition[1], definition[2])
    if head == "other":
        return not_taken(parts[0])
    if head == "star":
        return repeated(parts[0])
    return backwards(parts[0]) if head == "back" else domain(parts[0])


def _made_of_two(head, parts):
    one, other = parts
    if head == "both":
        return both_take(one, other)
    if head == "either":
        return one_takes(one, other)
    if head == "then":
        return followed(one, other)
    if head == "inverse":
        return inverse(one, other)
    if head == "image":
        return image(one, other)
    return restricted(one, other) if head == "restricted" else behind(one, other)


def least_of(table, store, name):
    """The least form of the machines with the language."""
    return least(asked_for(table, store, [(name, "machine")])[0])


def taken(table, store, name, word):
    """Whether the word is in the language."""
    return takes(asked_for(table, store, [(name, "machine")])[0], word)


def results_of(table, store, name, word):
    """The results of the word by the translation."""
    return results(asked_for(table, store, [(name, "translation")])[0], word)


def compared_languages(table, store, names):
    """The first word that is in exactly one of two languages, or None."""
    one, other = asked_for(table, store, [(name, "machine") for name in names])
    return compare(one, other)


def compared_translations(table, store, names):
    """The first word for which the results of two translations are not the same, or None."""
    one, other = asked_for(table, store, [(name, "translation") for name in names])
    return same(one, other)


def led_astray(table, store, names):
    """The first word of a language that a translation does not lead into another one, or None.

    names has the names of the translation and of the two languages.
    """
    heads = ("translation", "machine", "machine")
    translation, one, other = asked_for(table, store, list(zip(names, heads)))
    return leads(translation, one, other)

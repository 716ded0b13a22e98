"""The desk: languages and translations under names, with a log of changes that can be undone."""

from guardwords.defining import check_known, check_put, role_in, users_of, weight_in
from guardwords.errors import InUse, NothingToUndo
from guardwords.standing import compared_languages, compared_translations, least_of, led_astray, results_of, taken


class Desk:
    """Definitions under names.

    table has the definition of each name, in the order of the names; changes is the log, past has the table that was
    there before each change, and store keeps what names stand for.
    """

    def __init__(self):
        self.table = {}
        self.changes = ()
        self.past = ()
        self.store = {}

    def put(self, name, definition):
        """Define the name, or define it again."""
        check_put(self.table, name, definition)
        self._change(("put", name, definition), {**self.table, name: definition})

    def drop(self, name):
        """Take the name away."""
        check_known(self.table, (name,))
        users = users_of(self.table, name)
        if users:
            raise InUse(users[0])
        self._change(("drop", name), {told: self.table[told] for told in self.table if told != name})

    def _change(self, change, table):
        self.past = self.past + (self.table,)
        self.changes = self.changes + (change,)
        self.table = {name: table[name] for name in sorted(table)}
        self.store = {}

    def undo(self, *, many=1):
        """Take the last changes back, and return the names that they were about, the last change first."""
        left = len(self.changes) - many
        if left < 0:
            raise NothingToUndo("the log has fewer changes")
        names = [change[1] for change in self.changes[left:]]
        self.table = self.past[left]
        self.past = self.past[:left]
        self.changes = self.changes[:left]
        self.store = {}
        return tuple(names[::-1])

    @classmethod
    def made(cls, pairs):
        """A desk on which the definitions of the pairs of a name and a definition were put one after another."""
        desk = cls()
        for name, definition in pairs:
            desk.put(name, definition)
        return desk

    def definition(self, name):
        """The definition of the name."""
        check_known(self.table, (name,))
        return self.table[name]

    def role(self, name):
        """The role of the name: ("machine", kind) or ("translation", kind, other, plain)."""
        check_known(self.table, (name,))
        return role_in(self.table, name)

    def weight(self, name):
        """The weight of the definition of the name."""
        check_known(self.table, (name,))
        return weight_in(self.table, name)

    def users(self, name):
        """The names that use the name directly, ascending."""
        check_known(self.table, (name,))
        return users_of(self.table, name)

    def least(self, name):
        """The least form of the machines with the language."""
        return least_of(self.table, self.store, name)

    def takes(self, name, word):
        """Whether the word is in the language."""
        return taken(self.table, self.store, name, word)

    def results(self, name, word):
        """The results of the word by the translation."""
        return results_of(self.table, self.store, name, word)

    def compare(self, first, second):
        """The first word that is in exactly one of the two languages, or None."""
        return compared_languages(self.table, self.store, (first, second))

    def same(self, first, second):
        """The first word for which the results of the two translations are not the same, or None."""
        return compared_translations(self.table, self.store, (first, second))

    def leads(self, translation, first, second):
        """The first word of the first language with a result that is not in the second one, or None."""
        return led_astray(self.table, self.store, (translation, first, second))

    @property
    def log(self):
        """The changes, in the order in which they were made."""
        return self.changes

    def __len__(self):
        return len(self.table)

    def __iter__(self):
        return iter(self.table)

    def __contains__(self, name):
        return name in self.table

"""What the hooks of a book meet while deeds are done one after another.

A copy is a pair (name, key): the name of its document, and the key of its row.
"""

from owedrebuilds.errors import NotBulk
from owedrebuilds.hooks import Look
from owedrebuilds.paths import by_tables, reached


class Owing:
    """The store of a transaction as it is now, and the copies that are owed so far.

    owed has for each copy the number of the deed by which it was owed first, in the order
    in which the copies were met.
    """

    def __init__(self, book, store):
        self.book = book
        self.now = store
        self.made = []
        self.owed = {}
        # (hook, key of the changed row, number of the deed) for each answer of a late hook.
        self.late = []

    def steps_of(self, deed):
        """The changes of a deed, any value; none of them is done."""
        steps = self.now.changes(deed)
        if deed[0] == "bulk" and (deed[1], deed[3]) not in self.book.bulk:
            raise NotBulk(deed[1], deed[3])
        return steps

    def happen(self, step):
        """Does a change that no hook answers."""
        self.now.happen(step)
        self.made.append(step)

    def answer(self, at, step):
        """Does a change of the deed with this number; the copies that hooks meet behind it."""
        hooks = [hook for hook in self.book.hooks if hook.answers(step)]
        ahead = self._met(hooks, Look.AHEAD, step)
        self.happen(step)
        behind = self._met(hooks, Look.BEHIND, step)
        met = [found for found in [*ahead, *behind] if self.has_row(found)]
        for copy in met:
            self.owed.setdefault(copy, at)
        self.late.extend([(hook, step[2], at) for hook in hooks if hook.look == Look.LATE])
        return met

    def finish(self):
        """For each copy that late hooks meet at the end the number of the first deed to blame."""
        homes = self._rows_now()
        met = {}
        for hook, key, at in self.late:
            for end in reached(hook.way, homes, key):
                met.setdefault((hook.document, end), at)
                self.owed.setdefault((hook.document, end), at)
        return met

    def has_row(self, copy):
        """Whether the row of a copy is in the store now."""
        name, key = copy
        return (self.book.document_named(name).base, key) in self.now

    def _rows_now(self):
        return by_tables(self.book.schema, self.now.rows())

    def _met(self, hooks, look, step):
        """The copies that hooks with this look meet in the store as it is now."""
        looking = [hook for hook in hooks if hook.look == look]
        homes = self._rows_now() if looking else {}
        return [
            (hook.document, key)
            for hook in looking
            for key in reached(hook.way, homes, step[2])
        ]


def in_order(book, copies):
    """Copies in the order of the documents of a book, then by keys."""
    names = [document.name for document in book.documents]
    places = sorted([(names.index(name), key) for name, key in copies])
    return [(names[at], key) for at, key in places]

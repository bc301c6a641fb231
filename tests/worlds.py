"""All small stores and all changes of them, to look for stale copies without any theory."""

import itertools

from owedrebuilds.stores import Store
from models import base_of


def column_cells(schema, keys, table, column):
    """The cells that a column may have; keys has the keys of the rows of each table."""
    kind = schema.kind(table, column)
    if kind == "value":
        return [0]
    return [False, True] if kind == "flag" else [None, *keys[schema.target(table, column)]]


def all_cells(schema, keys, table):
    """All dicts of cells that a row may have; values are 0."""
    columns = schema.columns(table)
    for cells in itertools.product(*[column_cells(schema, keys, table, column) for column in columns]):
        yield dict(zip(columns, cells))


def all_stores(schema, many, most=9):
    """All stores with so many rows, at most most in one table, with the keys from 1 in each."""
    for counts in itertools.product(range(min(many, most) + 1), repeat=len(schema.tables)):
        if sum(counts) == many:
            keys = {table: list(range(1, count + 1)) for table, count in zip(schema.tables, counts)}
            places = [(table, key) for table in schema.tables for key in keys[table]]
            for cells in itertools.product(*[list(all_cells(schema, keys, table)) for table, _ in places]):
                yield Store(schema, [(*place, row) for place, row in zip(places, cells)])


class World:
    """What hooks meet and what copies contain, in any store of a book."""

    def __init__(self, book):
        self.book = book
        self.stores = {}
        self.joins = {}
        self.contents = {}
        self.steps = {}

    def place(self, store):
        """A short name for a store."""
        name = tuple((table, key, tuple(cells.values())) for table, key, cells in store.rows())
        self.stores.setdefault(name, store)
        return name

    def meets(self, at, place, key):
        """The keys of the copies to which a hook leads."""
        if (at, place, key) not in self.joins:
            self.joins[at, place, key] = self.book.hooks[at].way(self.stores[place], key)
        return self.joins[at, place, key]

    def content(self, copy, place):
        """The content of a copy; None if its row is not there."""
        if (copy, place) not in self.contents:
            document = self.book.document_named(copy[0])
            is_there = (document.base, copy[1]) in self.stores[place]
            self.contents[copy, place] = document(self.stores[place], copy[1]) if is_there else None
        return self.contents[copy, place]

    def changes(self, place):
        """All (change, by a bulk deed, place behind) but for puts."""
        if place not in self.steps:
            self.steps[place] = list(self.all_changes(self.stores[place]))
        return self.steps[place]

    def all_changes(self, store):
        schema = store.schema
        keys = {table: store.row_keys(table) for table in schema.tables}
        for table, key, cells in store.rows():
            for column, cell in cells.items():
                others = column_cells(schema, keys, table, column)
                for other in [*others, 1] if schema.kind(table, column) == "value" else others:
                    if other != cell:
                        step, behind = self.done(store, ("set", table, key, column, other))
                        yield (step, False, behind)
                        if (table, column) in self.book.bulk:
                            yield (step, True, behind)
            if not any(store.linked(owner, link, key) for owner, link in schema.links_to(table)):
                step, behind = self.done(store, ("remove", table, key))
                yield (step, False, behind)

    def puts(self, place, most):
        """All (change, False, place behind) of puts with the keys up to most."""
        store = self.stores[place]
        schema = store.schema
        keys = {table: store.row_keys(table) for table in schema.tables}
        for table in schema.tables:
            for key in range(1, most + 1):
                if key not in keys[table]:
                    for cells in all_cells(schema, keys, table):
                        step, behind = self.done(store, ("put", table, key, cells))
                        yield (step, False, behind)

    def done(self, store, deed):
        behind = store.duplicate()
        steps = behind.apply(deed)
        assert len(steps) == 1, deed
        return steps[0], self.place(behind)

    def early(self, step, ahead, behind):
        """The copies that ahead and behind hooks meet."""
        met = set()
        for at, hook in enumerate(self.book.hooks):
            if hook.look != "late" and hook.answers(step):
                place = ahead if hook.look == "ahead" else behind
                met |= {(hook.document, key) for key in self.meets(at, place, step[2])}
        return {copy for copy in met if (base_of(self.book, copy[0]), copy[1]) in self.stores[behind]}

    def copies(self, place):
        store = self.stores[place]
        return [(document.name, key) for document in self.book.documents for key in store.row_keys(document.base)]

    def stale_by_one_change(self, many):
        """Whether one change makes a copy stale in a store with so many rows, a put row among them.

        The book must have no late hooks.
        """
        for store in all_stores(self.book.schema, many):
            here = self.place(store)
            for step, bulk, there in self.changes(here):
                if self.is_stale(step, bulk, here, there):
                    return True
                # The same rows behind a put.
                if step[0] == "remove":
                    put = ("put", *step[1:])
                    if self.is_stale(put, False, there, here):
                        return True
        return False

    def is_stale(self, step, bulk, ahead, behind):
        met = set() if bulk else self.early(step, ahead, behind)
        return any(
            self.content(copy, ahead) != self.content(copy, behind) and copy not in met
            for copy in self.copies(behind)
        )

    def stale_by_many_changes(self, many, most=1):
        """Whether any changes make a copy of row 1 stale, with so many rows, puts among them.

        The store and the puts have keys up to most. All states are gone through: the store, the
        answers of late hooks so far, and whether the row has gone; a copy that is met is not
        followed, as it is built at the end.
        """
        for rows in range(many + 1):
            for store in all_stores(self.book.schema, rows, most):
                for document in self.book.documents:
                    if self.is_reached((document.name, 1), self.place(store), many - rows, most):
                        return True
        return False

    def is_reached(self, copy, begin, puts, most):
        content = self.content(copy, begin)
        start = (begin, frozenset(), content is None, puts)
        known, pending = {start}, [start]
        while pending:
            place, late, is_gone, left = pending.pop()
            now = self.content(copy, place)
            if now is not None and (is_gone or now != content):
                if not any(copy[1] in self.meets(at, place, key) for at, key in late):
                    return True
            steps = list(self.changes(place)) + (list(self.puts(place, most)) if left else [])
            for step, bulk, there in steps:
                if bulk or copy not in self.early(step, place, there):
                    answers = frozenset() if bulk else self.late_answers(copy, step)
                    lost = is_gone or step[:3] == ("remove", base_of(self.book, copy[0]), copy[1])
                    state = (there, late | answers, lost, left - (step[0] == "put"))
                    if state not in known:
                        known.add(state)
                        pending.append(state)
        return False

    def late_answers(self, copy, step):
        return frozenset(
            (at, step[2]) for at, hook in enumerate(self.book.hooks)
            if hook.look == "late" and hook.document == copy[0] and hook.answers(step)
        )

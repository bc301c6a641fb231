"""Desks: stores with the copies of documents that were built from them."""

from owedrebuilds.errors import NoColumn, NoDocument, TooMany
from owedrebuilds.owing import Owing, in_order
from owedrebuilds.playing import Play, content_of
from owedrebuilds.stores import Row

_MOST_DEEDS = 30


class Desk:
    """A book, the rows of a store, and for each copy the content with which it was built last."""

    def __init__(self, book, store, *, most=200):
        self.book = book
        self.most = most
        self._store = store.duplicate()
        self._contents = {
            (document.name, key): content_of(book, store, (document.name, key), most)
            for document in book.documents
            for key in store.row_keys(document.base)
        }

    def store(self):
        """A new store with the rows as they are now."""
        return self._store.duplicate()

    def content(self, name, key):
        """The content with which a copy was built last."""
        if (name, key) not in self._contents:
            raise NoDocument(name, key)
        return self._contents[name, key]

    def copies(self):
        """All (name, key) that are built, by documents and keys."""
        return in_order(self.book, list(self._contents))

    def stale(self):
        """All (name, key) of stale copies, by documents and keys."""
        return [
            (document.name, key)
            for document in self.book.documents
            for key in self._store.row_keys(document.base)
            if self._is_stale(document, key)
        ]

    def _is_stale(self, document, key):
        if (document.name, key) not in self._contents:
            return True
        content = self._contents[document.name, key]
        # There may be too many trails to list them.
        if document.count(self._store, key) != sum([len(entry) for entry in content]):
            return True
        return document(self._store, key) != content

    def do(self, *deeds, at_once=False):
        """Does a transaction; if it fails, the desk stays as it is."""
        if len(deeds) > _MOST_DEEDS:
            raise TooMany("deeds")
        play = Play(self.book, self._store, self._contents, self.most)
        play.play(deeds, at_once)
        # The store itself stays, as rows that were handed out look into it.
        for step in play.owing.made:
            self._store.happen(step)
        self._contents = play.contents
        return Run(play.owing.made, play.owing.owed, play.built)

    def __getitem__(self, at):
        table, key = at
        return HookedRow(self, self._store, table, key)

    def __iter__(self):
        raise TypeError("a desk cannot be iterated over")


class Run:
    """What a transaction did."""

    def __init__(self, made, owed, many):
        self.made = tuple(made)
        self.owed = tuple(owed)
        self.built = many

    def __len__(self):
        return len(self.made)

    def __bool__(self):
        return bool(self.made)


class HookedRow(Row):
    """A row of a desk; setting a cell is a transaction."""

    def __init__(self, desk, store, table, key):
        super().__init__(store, table, key)
        self._desk = desk

    @property
    def cells(self):
        """All cells as they are now."""
        return self._store.cells_of(self.table, self.key)

    def step(self, link):
        """The row of the desk to which a link leads, or None."""
        key = self._store.cell_of(self.table, self.key, link)
        target = self._store.schema.target(self.table, link)
        if target is None:
            raise NoColumn(self.table, link)
        if key is None:
            return None
        return HookedRow(self._desk, self._store, target, key)

    def __getitem__(self, at):
        return self._store.cell_of(self.table, self.key, at)

    def __setitem__(self, at, worth):
        self._desk.do(("set", self.table, self.key, at, worth))

    def __eq__(self, other):
        return isinstance(other, Row) and self.table == other.table and self.key == other.key

    def __iter__(self):
        raise TypeError("a row cannot be iterated over")


def owed_by(book, store, deed):
    """The copies that are owed if a deed is the only one of a transaction, by documents and keys."""
    for copy in in_order(book, _owed_alone(book, store, deed)):
        yield copy


def _owed_alone(book, store, deed):
    owing = Owing(book, store.duplicate())
    if deed[0] == "bulk":
        return []
    steps = owing.steps_of(deed)
    for step in steps:
        owing.answer(0, step)
    owing.finish()
    return list(owing.owed)

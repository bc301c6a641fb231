"""The errors of the package.

The fields are copied, as they may be lists or dicts that the caller goes on to change.
"""

from owedrebuilds.plain import copied


class OwedError(ValueError):
    """Any error of this package."""


class BadSchema(OwedError):
    """A line of a schema is wrong, or its text is no string (-1)."""

    def __init__(self, at):
        self.at = copied(at)


class BadStore(OwedError):
    """An entry of the rows of a store is wrong."""

    def __init__(self, at):
        self.at = copied(at)


class BadDeed(OwedError):
    """A value is not written as a deed."""

    def __init__(self, deed):
        self.deed = copied(deed)


class NoTable(OwedError):
    """The schema has no such table."""

    def __init__(self, table):
        self.table = copied(table)


class NoColumn(OwedError):
    """The table has no such column, or no such link where a link is needed."""

    def __init__(self, table, column):
        self.table = copied(table)
        self.column = copied(column)


class NoRow(OwedError):
    """The store has no such row."""

    def __init__(self, table, key):
        self.table = copied(table)
        self.key = copied(key)


class Taken(OwedError):
    """A row with this table and key is in the store already."""

    def __init__(self, table, key):
        self.table = copied(table)
        self.key = copied(key)


class BadCell(OwedError):
    """The value is no cell for this column, or leads to no row."""

    def __init__(self, table, column, cell):
        self.table = copied(table)
        self.column = copied(column)
        self.cell = copied(cell)


class Held(OwedError):
    """This row refuses a removal."""

    def __init__(self, table, key):
        self.table = copied(table)
        self.key = copied(key)


class NotBulk(OwedError):
    """Bulk deeds may not change this column."""

    def __init__(self, table, column):
        self.table = copied(table)
        self.column = copied(column)


class TooMany(OwedError):
    """There are more of something than are allowed."""

    def __init__(self, what):
        self.what = copied(what)


class BadWay(OwedError):
    """A word of a way is wrong, or its text is no string (-1)."""

    def __init__(self, at):
        self.at = copied(at)


class Mismatch(OwedError):
    """One way ends at another table than that where the next one starts."""

    def __init__(self, first, second):
        self.first = copied(first)
        self.second = copied(second)


class BadDocument(OwedError):
    """A read of a document is wrong, or its name or the number of reads (-1)."""

    def __init__(self, at):
        self.at = copied(at)


class BadHook(OwedError):
    """A part of a hook is wrong."""

    def __init__(self, what):
        self.what = copied(what)


class BadBook(OwedError):
    """A document, a hook or a bulk column does not go into a book."""

    def __init__(self, what, at):
        self.what = copied(what)
        self.at = copied(at)


class Crooked(OwedError):
    """A book with a late hook has a way that is not straight."""

    def __init__(self, where):
        self.where = copied(where)


class BadLine(OwedError):
    """A line of a book is wrong, or its text is no string (-1)."""

    def __init__(self, at):
        self.at = copied(at)


class NoDocument(OwedError):
    """There is no such document or no such copy of it."""

    def __init__(self, name, key):
        self.name = copied(name)
        self.key = copied(key)


class TooLong(OwedError):
    """A copy has more trails than can be built."""

    def __init__(self, name, key, most):
        self.name = copied(name)
        self.key = copied(key)
        self.most = copied(most)


class Refused(OwedError):
    """A deed of a transaction is an error."""

    def __init__(self, at, why):
        self.at = copied(at)
        self.why = copied(why)


class Failed(OwedError):
    """A copy that a transaction owes cannot be built."""

    def __init__(self, at, why):
        self.at = copied(at)
        self.why = copied(why)


class NotKept(OwedError):
    """The book is not kept."""

"""Stores: rows that are linked, and the deeds that change them."""

from owedrebuilds.cellkinds import full_cells, is_cell
from owedrebuilds.deeds import MOST_ROWS, planned
from owedrebuilds.errors import BadStore, NoColumn, NoRow, NoTable, TooMany
from owedrebuilds.plain import is_key


class Store:
    """Rows over a schema; each has a table, a key and a cell for each column."""

    def __init__(self, schema, rows):
        if len(rows) > MOST_ROWS:
            raise TooMany("rows")
        places = _places(rows)
        self.schema = schema
        self._rows = {table: {} for table in schema.tables}
        for at, entry in enumerate(rows):
            if not _is_entry(schema, places, entry) or (entry[0], entry[1]) in self:
                raise BadStore(at)
            self._rows[entry[0]][entry[1]] = full_cells(schema, entry[0], entry[2])

    def rows(self):
        """All (table, key, cells), in the order of rows."""
        return [
            (table, key, dict(self._rows[table][key]))
            for table in self.schema.tables
            for key in sorted(self._rows[table])
        ]

    def row_keys(self, table):
        """The keys of the rows of a table, ascending."""
        if table not in self._rows:
            raise NoTable(table)
        return sorted(self._rows[table])

    def linked(self, table, link, key):
        """The keys of the rows of table whose link leads to the row with this key, ascending."""
        if self.schema.target(table, link) is None:
            raise NoColumn(table, link)
        rows = self._rows[table]
        return [owner for owner in sorted(rows) if rows[owner][link] == key]

    def cell_of(self, table, key, column):
        """One cell of a row."""
        cells = self._cells_in(table, key)
        if column not in cells:
            raise NoColumn(table, column)
        return cells[column]

    def cells_of(self, table, key):
        """A dict of all cells of a row, in the order of the columns."""
        return dict(self._cells_in(table, key))

    def _cells_in(self, table, key):
        if table not in self._rows:
            raise NoTable(table)
        if (table, key) not in self:
            raise NoRow(table, key)
        return self._rows[table][key]

    def duplicate(self):
        """A new store with the same rows."""
        twin = Store(self.schema, ())
        for table, key, cells in self.rows():
            twin.happen(("put", table, key, cells))
        return twin

    def changes(self, deed):
        """The changes of a deed, which is not done."""
        return planned(self, deed)

    def apply(self, deed):
        """Does a deed and returns its changes."""
        steps = planned(self, deed)
        for step in steps:
            self.happen(step)
        return steps

    def happen(self, change):
        """Does one change, which must be the next one of a deed of this store."""
        rows = self._rows[change[1]]
        if change[0] == "put":
            rows[change[2]] = dict(change[3])
        elif change[0] == "remove":
            del rows[change[2]]
        else:
            rows[change[2]][change[3]] = change[5]

    def put(self, table, key, **cells):
        """Does the deed `put`; cells that are left out are empty."""
        return self.apply(("put", table, key, cells))

    def change(self, table, key, column, cell):
        """Does the deed `set`."""
        return self.apply(("set", table, key, column, cell))

    def remove(self, table, key):
        """Does the deed `remove`."""
        return self.apply(("remove", table, key))

    def __len__(self):
        return len([key for table in self._rows for key in self._rows[table]])

    def __contains__(self, x):
        if not isinstance(x, tuple) or len(x) != 2:
            return False
        table, key = x
        if not isinstance(table, str) or not is_key(key):
            return False
        return table in self._rows and key in self._rows[table]

    def __eq__(self, other):
        if not isinstance(other, Store):
            return False
        return self.schema == other.schema and self.rows() == other.rows()

    def __getitem__(self, at):
        table, key = at
        return Row(self, table, key)

    def __iter__(self):
        raise TypeError("a store cannot be iterated over")


class Row:
    """A row of a store, read and changed where it is."""

    def __init__(self, store, table, key):
        if table not in store.schema:
            raise NoTable(table)
        if (table, key) not in store:
            raise NoRow(table, key)
        self._store = store
        self.table = table
        self.key = key

    @property
    def cells(self):
        """All cells as they are now."""
        return self._store.cells_of(self.table, self.key)

    def step(self, link):
        """The row to which a link leads, or None."""
        key = self._store.cell_of(self.table, self.key, link)
        target = self._store.schema.target(self.table, link)
        if target is None:
            raise NoColumn(self.table, link)
        if key is None:
            return None
        return Row(self._store, target, key)

    def __getitem__(self, at):
        return self._store.cell_of(self.table, self.key, at)

    def __setitem__(self, at, worth):
        self._store.change(self.table, self.key, at, worth)

    def __eq__(self, other):
        return isinstance(other, Row) and self.table == other.table and self.key == other.key

    def __iter__(self):
        raise TypeError("a row cannot be iterated over")


def _places(rows):
    """The (table, key) to which links may lead, whatever else is wrong with their entries."""
    return {
        (entry[0], entry[1]): True
        for entry in rows
        if isinstance(entry, tuple) and len(entry) == 3
        and isinstance(entry[0], str) and is_key(entry[1])
    }


def _is_entry(schema, places, entry):
    """Whether any value is a (table, key, cells) for a store of the schema."""
    if not isinstance(entry, tuple) or len(entry) != 3:
        return False
    table, key, cells = entry
    if not isinstance(table, str) or table not in schema or not is_key(key):
        return False
    if not isinstance(cells, dict):
        return False
    return all([
        (table, column) in schema and is_cell(schema, places, table, column, cells[column])
        for column in cells
    ])

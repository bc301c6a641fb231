"""Deeds: how they are written, and the changes of which they consist."""

from owedrebuilds.cellkinds import full_cells, is_cell
from owedrebuilds.errors import BadCell, BadDeed, NoColumn, NoRow, NoTable, Taken, TooMany
from owedrebuilds.plain import is_key
from owedrebuilds.removals import removal

MOST_ROWS = 40


def planned(store, deed):
    """The changes of a deed, in their order; none of them is done."""
    if not is_deed(deed):
        raise BadDeed(deed)
    if deed[1] not in store.schema:
        raise NoTable(deed[1])
    if deed[0] == "put":
        return _put(store, deed[1], deed[2], deed[3])
    if deed[0] == "set":
        return _set_one(store, deed[1], deed[2], deed[3], deed[4])
    if deed[0] == "bulk":
        return _set_all(store, deed[1], deed[2], deed[3], deed[4])
    return removal(store, deed[1], deed[2])


def is_deed(thing):
    """Whether any value is written as a deed; its names need not exist, its cells not fit."""
    if not isinstance(thing, tuple) or len(thing) < 3 or not isinstance(thing[1], str):
        return False
    if thing[0] == "put":
        return len(thing) == 4 and is_key(thing[2]) and _are_cells(thing[3])
    if thing[0] == "set":
        return len(thing) == 5 and is_key(thing[2]) and isinstance(thing[3], str)
    if thing[0] == "remove":
        return len(thing) == 3 and is_key(thing[2])
    if thing[0] == "bulk":
        return len(thing) == 5 and _are_keys(thing[2]) and isinstance(thing[3], str)
    return False


def _are_cells(thing):
    return isinstance(thing, dict) and all([isinstance(column, str) for column in thing])


def _are_keys(thing):
    if not isinstance(thing, tuple) or not all([is_key(key) for key in thing]):
        return False
    return len(set(thing)) == len(thing)


def _put(store, table, key, cells):
    if (table, key) in store:
        raise Taken(table, key)
    for column in sorted(cells):
        _check_cell(store, table, column, cells[column])
    if len(store) >= MOST_ROWS:
        raise TooMany("rows")
    return [("put", table, key, full_cells(store.schema, table, cells))]


def _set_one(store, table, key, column, cell):
    if (table, key) not in store:
        raise NoRow(table, key)
    _check_cell(store, table, column, cell)
    return _settings(store, table, (key,), column, cell)


def _set_all(store, table, row_keys, column, cell):
    # Ahead of the rows, and also where there are none.
    if (table, column) not in store.schema:
        raise NoColumn(table, column)
    for key in row_keys:
        if (table, key) not in store:
            raise NoRow(table, key)
    _check_cell(store, table, column, cell)
    return _settings(store, table, row_keys, column, cell)


def _settings(store, table, row_keys, column, cell):
    """The changes of these rows; those that have the cell already make none."""
    olds = [(key, store.cell_of(table, key, column)) for key in row_keys]
    return [("set", table, key, column, old, cell) for key, old in olds if old != cell]


def _check_cell(store, table, column, cell):
    """Raises NoColumn where there is no such column, then BadCell."""
    if (table, column) not in store.schema:
        raise NoColumn(table, column)
    if not is_cell(store.schema, store, table, column, cell):
        raise BadCell(table, column, cell)

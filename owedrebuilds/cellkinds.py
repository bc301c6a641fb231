"""The cells that fit a column."""

from owedrebuilds.plain import is_integer, is_key

_EMPTY = {"value": 0, "flag": False, "link": None}


def is_cell(schema, places, table, column, cell):
    """Whether any value is a cell for a column of the schema.

    places, asked by `in`, are the (table, key) to which links may lead.
    """
    kind = schema.kind(table, column)
    if kind == "flag":
        return isinstance(cell, bool)
    if kind == "value":
        return is_integer(cell) and -(10 ** 30) < cell < 10 ** 30
    if cell is None:
        return True
    return is_key(cell) and (schema.target(table, column), cell) in places


def empty_cell(schema, table, column):
    """The cell that a row has where none is given."""
    return _EMPTY[schema.kind(table, column)]


def full_cells(schema, table, cells):
    """A new dict with a cell for each column, in their order."""
    return {
        column: cells.get(column, empty_cell(schema, table, column))
        for column in schema.columns(table)
    }

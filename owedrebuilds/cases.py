"""The cases of a read: which changes of the rows that it visits a book must answer.

A turn is a case without its read: (event, side, key of the changed row).
"""

from owedrebuilds.folds import cells_of_row, is_linked, subsets


def cases(schema, rows, trail, column):
    """The turns of all cases of a read, in order; rows are those of its trail."""
    homes = {row[1]: row[0] for row in rows}
    found = []
    for key in sorted(homes):
        table = homes[key]
        cells = cells_of_row(rows, key)
        read = column if key == trail[-1] else None
        for name in cells:
            sides = _sides(schema, (table, name), cells[name], read)
            found.extend([(("set", table, name), side, key) for side in sides])
        if key != trail[0] and not is_linked(schema, rows, table, key):
            found.extend([(("remove", table), "off", key), (("put", table), "on", key)])
    return found


def _sides(schema, place, cell, read):
    """The sides of the cases of a cell; read is the column that is read in its row, or None."""
    table, column = place
    # Values are 0 here, so these are links and flags.
    if cell:
        return ("off", "on")
    if column != read:
        return ()
    return ("other",) if schema.kind(table, column) == "value" else ("off", "on")


def groups(rows, turn):
    """All sets P of a case, in order: other rows in which the same cell is set."""
    event, _, key = turn
    if event[0] != "set":
        return [()]
    return subsets([
        row[1] for row in rows
        if row[0] == event[1] and row[1] != key and row[2][event[2]]
    ])

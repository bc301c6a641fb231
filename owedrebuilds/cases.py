"""The cases of a read: which changes of the rows that it visits a book must answer.

A turn is a case without its read: (event, side, key of the changed row).
"""

from owedrebuilds.folds import linked_keys, subsets


def cases(schema, rows, trail, column):
    """The turns of all cases of a read, in order; rows are those of its trail."""
    homes = {row[1]: row for row in rows}
    linked = linked_keys(schema, rows)
    found = []
    for key in sorted(homes):
        table, _, cells = homes[key]
        read = column if key == trail[-1] else None
        for name in cells:
            # Values are 0 here, so these are links and flags.
            if cells[name] or (name == read and schema.kind(table, name) == "flag"):
                found.extend([(("set", table, name), "off", key), (("set", table, name), "on", key)])
            elif name == read:
                found.append((("set", table, name), "other", key))
        if key != trail[0] and key not in linked:
            found.extend([(("remove", table), "off", key), (("put", table), "on", key)])
    return found


def groups(rows, turn):
    """All sets P of a case, in order: other rows in which the same cell is set."""
    event, _, key = turn
    if event[0] != "set":
        return [()]
    return subsets([
        row[1] for row in rows
        if row[0] == event[1] and row[1] != key and row[2][event[2]]
    ])

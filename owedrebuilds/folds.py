"""Rows of least stores, altered and folded into one another.

Rows are (table, key, cells) in the order of rows of a store. In a least store no two rows have
the same key, whatever their tables, and the cells of values are 0: so keys alone name rows.
"""


def fold(schema, rows, group):
    """The rows when those with the keys of group are folded into one, and the names of all keys.

    The name of a key is the key of the row into which its row is folded.
    """
    names = _merged({row[1]: row[1] for row in rows}, group)
    clash = _clash(schema, rows, names)
    while clash:
        names = _merged(names, clash)
        clash = _clash(schema, rows, names)
    return (folded_rows(schema, rows, names), names)


def foldings(schema, rows):
    """All names by which rows of one table can be folded, in any number of groups."""
    found = [{}]
    homes = {row[1]: row[0] for row in rows}
    for key in homes:
        found = [
            {**names, key: name}
            for names in found
            for name in [*_names_at(names, homes, homes[key]), key]
        ]
    return [names for names in found if not _clash(schema, rows, names)]


def folded_rows(schema, rows, names):
    """The rows that are left; each has the flags and links that any of its rows has."""
    left = {}
    for table, key, cells in rows:
        folded = (table, names[key])
        left[folded] = _united(left.get(folded, {}), _renamed(schema, table, cells, names))
    return tuple([(*place, left[place]) for place in left])


def with_cell(rows, key, column, cell):
    """The rows with another cell."""
    return tuple([
        (table, one, {**cells, column: cell} if one == key else cells)
        for table, one, cells in rows
    ])


def without_row(rows, key):
    """The rows but one."""
    return tuple([row for row in rows if row[1] != key])


def with_row(schema, rows, table, key, cells):
    """The rows and one more."""
    more = [*rows, (table, key, cells)]
    return tuple([row for home in schema.tables for row in more if row[0] == home])


def cells_of_row(rows, key):
    """The cells of the row with a key."""
    found = [row[2] for row in rows if row[1] == key]
    return found[0]


def linked_keys(schema, rows):
    """A dict with the keys of all rows to which a row, perhaps the same one, links."""
    return {
        cells[column]: True
        for table, _, cells in rows
        for column in schema.links(table) if cells[column] is not None
    }


def subsets(numbers):
    """All ascending tuples of numbers that ascend, in the order of tuples."""
    found = [()]
    for number in numbers:
        found = [*found, *[(*group, number) for group in found]]
    return sorted(found)


def _names_at(names, homes, table):
    """The names that are given to rows of a table so far."""
    return [name for name in sorted(set(list(names.values()))) if homes[name] == table]


def _merged(names, group):
    """The names when the rows of group have one, the least of theirs."""
    given = {names[key]: True for key in group}
    least = min(list(given))
    return {key: least if names[key] in given else names[key] for key in names}


def _clash(schema, rows, names):
    """Two names that must be one, as the same link of one row leads to both; () if there are none."""
    led = {}
    for table, key, cells in rows:
        for column in cells:
            if cells[column] is not None and schema.target(table, column) is not None:
                there = names[cells[column]]
                before = led.setdefault((names[key], column), there)
                if before != there:
                    return (before, there)
    return ()


def _renamed(schema, table, cells, names):
    """The cells with links to the rows that are left."""
    return {
        column: cells[column]
        if cells[column] is None or schema.target(table, column) is None else names[cells[column]]
        for column in cells
    }


def _united(cells, more):
    """The cells of one row with the flags and links of another one, too."""
    return {column: cells.get(column) or more[column] for column in more}

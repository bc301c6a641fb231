"""What a removal does: the rows that go with a row, and the links that are cleared."""

from owedrebuilds.errors import Held, NoRow


def removal(store, table, key):
    """The changes by which a row is removed, in their order; none of them is done."""
    if (table, key) not in store:
        raise NoRow(table, key)
    found = _found_rows(store, (table, key))
    _check_refusals(store, found)
    left = store.duplicate()
    out = []
    for place in found[::-1]:
        steps = _clearings(left, place)
        for step in steps:
            left.happen(step)
        last = ("remove", place[0], place[1], left.cells_of(place[0], place[1]))
        left.happen(last)
        out.extend(steps)
        out.append(last)
    return out


def _found_rows(store, place):
    """The row and all that go with it by `cascade`, in the order in which they are found."""
    found = [place]
    at = 0
    while at < len(found):
        links = _links_to_row(store, found[at])
        for owner, key, column in links:
            if store.schema.rule(owner, column) == "cascade" and (owner, key) not in found:
                found.append((owner, key))
        at += 1
    return found


def _check_refusals(store, found):
    """Raises Held with the first row, in the order of rows, that stays and refuses."""
    for table, key, cells in store.rows():
        if (table, key) in found:
            continue
        for column in cells:
            place = (store.schema.target(table, column), cells[column])
            if place in found and store.schema.rule(table, column) == "refuse":
                raise Held(table, key)


def _clearings(store, place):
    """The changes that set all links to a row to None."""
    links = _links_to_row(store, place)
    return [("set", table, key, column, place[1], None) for table, key, column in links]


def _links_to_row(store, place):
    """All (table, key, column) whose link leads to a row, in the order of rows and cells."""
    return [
        (table, key, column)
        for table, key, cells in store.rows()
        for column in cells
        if (store.schema.target(table, column), cells[column]) == place
    ]

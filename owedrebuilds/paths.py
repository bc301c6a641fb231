"""How ways go through rows: what they join, and by how many trails.

Rows are (table, key, cells) in the order of rows of a store. There may be very many
trails, but each step leads between at most as many pairs of rows as there are rows:
each pair is one link.
"""


def visited(way, rows):
    """For each position a dict from the keys of the rows that may be visited to their cells."""
    return [_standing(rows, table, flags) for table, flags in zip(way.tables, way.asked)]


def legs(way, places):
    """For each step all (key, next key) between which it leads; places are those of `visited`."""
    return [_leg(hop, places[at], places[at + 1]) for at, hop in enumerate(way.hops)]


def joined(way, rows, key):
    """The keys of the rows that a way joins with a row, ascending."""
    return reached(way, by_tables(way.schema, rows), key)


def by_tables(schema, rows):
    """For each table a dict from the keys of its rows to their cells."""
    return {
        table: {key: cells for home, key, cells in rows if home == table}
        for table in schema.tables
    }


def reached(way, homes, key):
    """As `joined`, in rows that `by_tables` gives, for ways that go through the same rows."""
    here = _asked({key: True}, homes[way.start], way.asked[0])
    for at, hop in enumerate(way.hops):
        back, table, link = hop
        rows = homes[table]
        if back:
            here = {there: True for there in rows if rows[there][link] in here}
        else:
            here = {rows[near][link]: True for near in here}
        here = _asked(here, homes[way.tables[at + 1]], way.asked[at + 1])
    return sorted(here)


def _asked(found, rows, flags):
    """Those of the keys whose rows may be visited; None, where a link is not set, is none of them."""
    return {key: True for key in found if key in rows and all([rows[key][flag] for flag in flags])}


def counted(way, rows, key):
    """How many trails begin with a row."""
    places = visited(way, rows)
    many = {begin: 1 for begin in _beginnings(places, key)}
    for pairs in legs(way, places):
        many = _carried(pairs, many)
    return sum(list(many.values()))


def first_path(way, rows, key, end):
    """The first trail, ascending, from one row to another one; None if there is none."""
    places = visited(way, rows)
    steps = legs(way, places)
    alive = _alive(steps, {last: True for last in places[-1] if last == end})
    if key not in alive[0]:
        return None
    trail = [key]
    for at, pairs in enumerate(steps):
        trail.append(min([there for here, there in pairs if here == trail[at] and there in alive[at + 1]]))
    return tuple(trail)


def onward_keys(way, rows):
    """For each step a dict from a key to the next ones on trails, the greatest first."""
    places = visited(way, rows)
    steps = legs(way, places)
    alive = _alive(steps, places[-1])
    return [_gathered(pairs, alive[at + 1]) for at, pairs in enumerate(steps)]


def is_path(way, rows, trail):
    """Whether a tuple with a key for each position is a trail."""
    places = visited(way, rows)
    if trail[0] not in places[0]:
        return False
    steps = legs(way, places)
    return all([(trail[at], trail[at + 1]) in pairs for at, pairs in enumerate(steps)])


def _standing(rows, table, flags):
    return {
        key: cells
        for home, key, cells in rows
        if home == table and all([cells[flag] for flag in flags])
    }


def _leg(hop, near, far):
    back, _, link = hop
    if back:
        return [(far[key][link], key) for key in far if far[key][link] in near]
    return [(key, near[key][link]) for key in near if near[key][link] in far]


def _beginnings(places, key):
    """A dict with the key alone, if its row may be visited at the start."""
    return {begin: True for begin in places[0] if begin == key}


def _carried(pairs, many):
    """How many trails reach each row by a step, if so many reach the rows ahead of it."""
    out = {}
    for here, there in pairs:
        out[there] = out.get(there, 0) + many.get(here, 0)
    return out


def _alive(steps, ends):
    """For each position the keys from which trails go on to one of the ends."""
    alive = [ends]
    for pairs in steps[::-1]:
        onward = alive[-1]
        alive.append({here: True for here, there in pairs if there in onward})
    return alive[::-1]


def _gathered(pairs, alive):
    """A dict from each key to the keys to which it leads, of those that are alive."""
    out = {}
    for here, there in sorted(pairs, reverse=True):
        if there in alive:
            out[here] = out.get(here, []) + [there]
    return out

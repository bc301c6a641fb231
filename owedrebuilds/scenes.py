"""Scenes: the least stores with one change that a book must answer."""

from owedrebuilds.cases import cases, groups
from owedrebuilds.cellkinds import empty_cell, full_cells
from owedrebuilds.folds import cells_of_row, fold, linked_keys, with_cell, with_row, without_row
from owedrebuilds.hooks import Look
from owedrebuilds.paths import by_tables, first_path, reached
from owedrebuilds.stores import Store
from owedrebuilds.ways import least_rows


class Scene:
    """A store, a deed that makes one change, the changed row and a copy.

    It is made from the fuller one of the two stores, ahead and behind. label is (document,
    number, folded), and turn is (event, side, key of the changed row).
    """

    def __init__(self, schema, label, turn, rows, key):
        self.document, self.number, self.folded = label
        self.event, self.side, row_key = turn
        self.changed = (self.event[1], row_key)
        self.key = key
        bare = _bare_rows(schema, turn, rows)
        self._schema = schema
        self._ahead_rows, self._behind_rows = (bare, rows) if self.side in ("on", "new") else (rows, bare)
        self.deed = _deed(turn, rows, self._behind_rows)
        self._homes = {
            Look.AHEAD: by_tables(schema, self._ahead_rows),
            Look.BEHIND: by_tables(schema, self._behind_rows),
        }

    def ahead(self):
        """The store ahead of the deed."""
        return Store(self._schema, self._ahead_rows)

    def behind(self):
        """The store behind the deed."""
        return Store(self._schema, self._behind_rows)

    def joined_by(self, look, way):
        """Whether a way, walked with this look, joins the changed row with that of the copy."""
        homes = self._homes[Look.AHEAD if look == Look.AHEAD else Look.BEHIND]
        return self.key in reached(way, homes, self.changed[1])

    def trail_by(self, look, way):
        """The first trail by which a way, walked with this look, joins them; or None."""
        rows = self._ahead_rows if look == Look.AHEAD else self._behind_rows
        return first_path(way, rows, self.changed[1], self.key)


def _bare_rows(schema, turn, rows):
    """The rows of the other store."""
    event, side, key = turn
    if event[0] != "set":
        return without_row(rows, key)
    cell = 1 if side == "other" else empty_cell(schema, event[1], event[2])
    return with_cell(rows, key, event[2], cell)


def _deed(turn, rows, behind):
    event, _, key = turn
    if event[0] == "put":
        return ("put", event[1], key, dict(cells_of_row(rows, key)))
    if event[0] == "remove":
        return ("remove", event[1], key)
    return ("set", event[1], key, event[2], cells_of_row(behind, key)[event[2]])


def scenes(book):
    """All scenes of a book, in order."""
    for document in book.documents:
        yield new_scene(document)
        for number in range(len(document)):
            yield from _scenes_of_read(document, number)


def new_scene(document):
    """The scene in which a row of the base is put."""
    schema, base = document.schema, document.base
    turn = (("put", base), "new", 1)
    rows = ((base, 1, full_cells(schema, base, {})),)
    return Scene(schema, (document.name, -1, ()), turn, rows, 1)


def _scenes_of_read(document, number):
    way, column = document.reads[number]
    rows, trail = least_rows(way)
    for turn in cases(document.schema, rows, trail, column):
        for group in groups(rows, turn):
            yield _scene(document, number, (rows, trail), turn, group)


def plain_scenes(document, number, rows, trail):
    """The scenes with an empty P of a read, in rows through which its trail goes, in order."""
    column = document.reads[number][1]
    return [
        _scene(document, number, (rows, trail), turn, ())
        for turn in cases(document.schema, rows, trail, column)
    ]


def _scene(document, number, least, turn, group):
    """The scene of a case and a set P; least is (rows, trail)."""
    rows, trail = least
    event, side, key = turn
    schema = document.schema
    if event[0] == "set" and schema.kind(event[1], event[2]) == "flag":
        # A flag that is only read is not set yet.
        rows = with_cell(rows, key, event[2], True)
    rows, names = fold(schema, rows, (key, *group))
    label = (document.name, number, group)
    return Scene(schema, label, (event, side, names[key]), rows, names[trail[0]])


def off_scenes(document, rows, trail, keys):
    """Scenes of no read: of the rows with these keys one is removed, or a link or flag made empty."""
    schema = document.schema
    label = (document.name, None, ())
    return [
        Scene(schema, label, turn, rows, trail[0])
        for turn in cases(schema, rows, trail, None)
        if turn[1] == "off" and turn[2] in keys
    ]


def covers(scene, hook):
    """Whether a hook covers a scene with any trail."""
    return (
        hook.event == scene.event and hook.document == scene.document
        and scene.joined_by(hook.look, hook.way)
    )


def cover(scene, hook):
    """The first trail with which a hook covers a scene, or None."""
    if not covers(scene, hook):
        return None
    return scene.trail_by(hook.look, hook.way)


def is_cover(scene, hook, thing):
    """Whether any value is a trail with which a hook covers a scene."""
    if hook.event != scene.event or hook.document != scene.document:
        return False
    store = scene.ahead() if hook.look == Look.AHEAD else scene.behind()
    return hook.way.is_trail(store, thing) and (thing[0], thing[-1]) == (scene.changed[1], scene.key)


def meetings(hook):
    """All meetings of a hook, in order."""
    rows, trail = least_rows(hook.way)
    if hook.event[0] == "set":
        for group in groups(rows, (hook.event, None, trail[0])):
            yield from _meetings_of_set(hook, rows, trail, group)
    elif _can_stand_alone(hook, rows, trail):
        side = "on" if hook.event[0] == "put" else "off"
        yield _meeting(hook, side, rows, trail, ())


def _can_stand_alone(hook, rows, trail):
    """Whether a hook of a put or removal meets the last row of its least store from the first one."""
    if trail[0] in linked_keys(hook.way.schema, rows):
        return False
    if hook.event[0] == "put":
        return hook.look != Look.AHEAD
    return hook.look == Look.AHEAD and trail[-1] != trail[0]


def _meetings_of_set(hook, rows, trail, group):
    """The meetings with a set P; there are two where the cell is set nowhere."""
    schema = hook.way.schema
    _, table, column = hook.event
    near_is_full = "off" if hook.look == Look.AHEAD else "on"
    far_is_full = "on" if hook.look == Look.AHEAD else "off"
    if schema.kind(table, column) == "value":
        yield _meeting(hook, "other", rows, trail, ())
    elif group or cells_of_row(rows, trail[0])[column]:
        whole, names = fold(schema, rows, (trail[0], *group))
        yield _meeting(hook, near_is_full, whole, [names[key] for key in trail], group)
    else:
        whole = _filled(schema, rows, table, trail[0], column)
        yield _meeting(hook, far_is_full, whole, trail, ())
        yield _meeting(hook, near_is_full, whole, trail, ())


def _filled(schema, rows, table, key, column):
    """The rows with an empty flag or link set, which leads to one more row."""
    target = schema.target(table, column)
    if target is None:
        return with_cell(rows, key, column, True)
    more = max([row[1] for row in rows]) + 1
    led = with_cell(rows, key, column, more)
    return with_row(schema, led, target, more, full_cells(schema, target, {}))


def _meeting(hook, side, rows, trail, group):
    label = (hook.document, None, group)
    return Scene(hook.way.schema, label, (hook.event, side, trail[0]), rows, trail[-1])

"""Traps: several changes that cut the way back of late hooks, so that a copy stays stale.

In a book with late hooks all ways are straight: from a row of the least store of a read only one
way goes back to the copy, through the rows of all positions before. With fewer rows, links and
flags no hook meets more copies; so a change that is free stays free until it is made.
"""

from owedrebuilds.folds import cells_of_row, subsets
from owedrebuilds.hooks import Look
from owedrebuilds.paths import by_tables, reached
from owedrebuilds.scenes import covers, off_scenes
from owedrebuilds.ways import least_rows


def is_trapped(book):
    """Whether there is a trap for any read of a book."""
    return any([
        trap(book, document, number) is not None
        for document in book.documents
        for number in range(len(document))
    ])


def trap(book, document, number):
    """Deeds that leave the copy of row 1 stale in the least store of a read; None if there is no trap."""
    if not any([hook.look == Look.LATE for hook in book.hooks]):
        return None
    way = document.reads[number][0]
    # From the last position on, so that fewer deeds are found first.
    for at in reversed(range(len(way.tables))):
        deeds = _cut(book, document, way, at)
        if deeds is not None:
            return deeds
        for flags in subsets(way.asked[at]):
            deeds = _dim(book, document, way, at, flags)
            if deeds is not None:
                return deeds
    return None


def _cut(book, document, way, at):
    """Free changes from a position on until its row is parted from those before; None if there are none."""
    rows, trail = least_rows(way)
    deeds = []
    while _is_joined(way, rows, trail, at):
        free = _free_scenes(book, document, rows, trail, trail[at:])
        if not free:
            return None
        parting = [scene for scene in free if not _is_joined(way, scene.behind().rows(), trail, at)]
        step = [*parting, *free][0]
        deeds.append(step.deed)
        rows = tuple(step.behind().rows())
    return tuple(deeds)


def _is_joined(way, rows, trail, at):
    """Whether the row of a position is there, and linked with the one before."""
    if trail[at] not in [row[1] for row in rows]:
        return False
    if at == 0:
        return True
    back, _, link = way.hops[at - 1]
    owner = trail[at] if back else trail[at - 1]
    return cells_of_row(rows, owner)[link] is not None


def _dim(book, document, way, at, flags):
    """Free changes that make these flags False at a position, where all late hooks ask them; or None."""
    if not flags:
        return None
    rows, trail = least_rows(way)
    events = [("set", way.tables[at], flag) for flag in flags]
    deeds = []
    while len(deeds) < len(flags):
        scenes_left = _free_scenes(book, document, rows, trail, (trail[at],))
        free = [scene for scene in scenes_left if scene.event in events]
        if not free:
            return None
        deeds.append(free[0].deed)
        rows = tuple(free[0].behind().rows())
    if _is_met_late(book, document, events, rows, trail[at], trail[0]):
        return None
    return tuple(deeds)


def _free_scenes(book, document, rows, trail, keys):
    """The changes of rows with these keys, by which no ahead or behind hook meets the copy."""
    early = [hook for hook in book.hooks if hook.look != Look.LATE]
    return [
        scene for scene in off_scenes(document, rows, trail, keys)
        if not any([covers(scene, hook) for hook in early])
    ]


def _is_met_late(book, document, events, rows, key, copy_key):
    """Whether a late hook of one of the events meets the copy from a row in these rows."""
    homes = by_tables(book.schema, rows)
    return any([
        copy_key in reached(hook.way, homes, key)
        for hook in book.hooks
        if hook.look == Look.LATE and hook.document == document.name and hook.event in events
    ])

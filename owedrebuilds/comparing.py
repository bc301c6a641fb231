"""Two books: whether they meet the same copies at every change of every store."""

from owedrebuilds.desks import owed_by
from owedrebuilds.errors import BadBook, OwedError, TooMany
from owedrebuilds.hooks import Look
from owedrebuilds.plain import is_key
from owedrebuilds.scenes import covers, meetings
from owedrebuilds.stores import Store

_MOST_HOOKS = 24


class Comparison:
    """Whether two books are alike, and what shows that they are parted."""

    def __init__(self, certificate):
        self.certificate = certificate

    def __bool__(self):
        return bool(self.certificate[0] == "alike")


def compare(one, other):
    """The comparison of two books with documents of the same names and bases."""
    _check_pair(one, other)
    for book, rival in ((one, other), (other, one)):
        for hook in book.hooks:
            scene = _parting_scene(hook, rival)
            if scene is not None:
                rows = tuple(scene.ahead().rows())
                return Comparison(("parted", rows, scene.deed, scene.document, scene.key))
    return Comparison(("alike",))


def _check_pair(one, other):
    heads = [[(document.name, document.base) for document in book.documents] for book in (one, other)]
    if not one.schema == other.schema or heads[0] != heads[1]:
        raise BadBook("documents", -1)
    if len(one) > _MOST_HOOKS or len(other) > _MOST_HOOKS:
        raise TooMany("hooks")


def _parting_scene(hook, book):
    """The first meeting of a hook in which no hook of a book meets the copy, or None."""
    rivals = [
        rival for rival in book.hooks
        if rival.event == hook.event and rival.document == hook.document
    ]
    # What walks in the same store and meets all that the hook meets there needs no meetings.
    if any([_is_ahead(rival) == _is_ahead(hook) and hook.way in rival.way for rival in rivals]):
        return None
    for scene in meetings(hook):
        if not any([covers(scene, rival) for rival in rivals]):
            return scene
    return None


def _is_ahead(hook):
    return hook.look == Look.AHEAD


def is_parting(one, other, thing):
    """Whether any value is a certificate that two books are parted."""
    _check_pair(one, other)
    if not isinstance(thing, tuple) or len(thing) != 5 or thing[0] != "parted":
        return False
    _, rows, deed, name, key = thing
    if not isinstance(rows, tuple) or not is_key(key):
        return False
    try:
        store = Store(one.schema, rows)
        steps = store.changes(deed)
    except OwedError:
        return False
    if deed[0] == "bulk" or len(steps) != 1:
        return False
    first = list(owed_by(one, store, deed))
    second = list(owed_by(other, store, deed))
    return ((name, key) in first) != ((name, key) in second)

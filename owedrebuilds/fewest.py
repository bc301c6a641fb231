"""Fewer hooks: which of them a book needs, and what they may ask."""

from owedrebuilds.booklines import MOST_HOOKS
from owedrebuilds.books import Book
from owedrebuilds.errors import TooMany
from owedrebuilds.folds import subsets
from owedrebuilds.hooks import Hook, Look
from owedrebuilds.keeping import check_kept, coverings
from owedrebuilds.scenes import covers, meetings, new_scene, plain_scenes, scenes
from owedrebuilds.traps import is_trapped
from owedrebuilds.ways import Way, least_rows
from owedrebuilds.waywords import write_words

_MOST_FOR_SETS = 10
_MOST_FOR_LOOKS = 6


def full_book(documents, *, bulk=()):
    """The book of these documents with a hook for each scene with an empty P."""
    plain = Book(documents, ())
    hooks = []
    for document in plain.documents:
        hooks = _with_new(hooks, _full_hooks(document))
    if len(hooks) > MOST_HOOKS:
        raise TooMany("hooks")
    return Book(documents, hooks, bulk=bulk)


def _with_new(hooks, more):
    """The hooks and those of more that are equal to no earlier one."""
    found = list(hooks)
    for hook in more:
        if hook not in found:
            found.append(hook)
    return found


def _full_hooks(document):
    """The hooks for the scenes of a document, also where some are equal."""
    home = Way(document.schema, document.base)
    found = [_full_hook(new_scene(document), home)]
    for number, (way, _) in enumerate(document.reads):
        rows, trail = least_rows(way)
        for scene in plain_scenes(document, number, rows, trail):
            there = ~way.beginning(trail.index(scene.changed[1]))
            found.append(_full_hook(scene, there))
    return found


def _full_hook(scene, way):
    """The hook for a scene, which goes this way but for the flag that the event sets."""
    look = Look.AHEAD if scene.side == "off" else Look.BEHIND
    if scene.event[0] == "set":
        way = _not_asking(way, scene.event[2])
    return Hook(scene.event, look, way, scene.document)


def _not_asking(way, flag):
    """The way that does not ask a flag at position 0."""
    first = tuple([name for name in way.asked[0] if name != flag])
    return Way(way.schema, write_words((way.start, *way.steps), (first, *way.asked[1:])))


def least_sets(book):
    """All sets of as few hooks as possible with which a kept book is kept, by their numbers."""
    if len(book) > _MOST_FOR_SETS:
        raise TooMany("hooks")
    check_kept(book)
    needs = coverings(book, book.hooks)
    sets = subsets(list(range(len(book))))
    for many in range(len(book) + 1):
        found = [numbers for numbers in sets if len(numbers) == many and _meets(needs, numbers)]
        found = [numbers for numbers in found if not is_trapped(book.only(numbers))]
        if found:
            return found
    return []


def _meets(needs, numbers):
    """Whether each of the needs, tuples of numbers, has one of the numbers."""
    return all([any([number in need for number in numbers]) for need in needs])


def looks(book):
    """All tuples of looks, ahead or behind, with which a book is kept."""
    if len(book) > _MOST_FOR_LOOKS:
        raise TooMany("hooks")
    both = [Look.AHEAD, Look.BEHIND]
    needs = coverings(book, [hook.looking(look) for hook in book for look in both])
    choices = [()]
    for at in range(len(book)):
        choices = [(*choice, number) for choice in choices for number in (2 * at, 2 * at + 1)]
    return [tuple([both[number % 2] for number in choice]) for choice in choices if _meets(needs, choice)]


def may_ask(book, number):
    """All (position, flag) that a hook of a kept book does not ask, but may."""
    check_kept(book)
    hook = book.hooks[number]
    others = [other for at, other in enumerate(book.hooks) if at != number]
    alone = [scene for scene in scenes(book) if not any([covers(scene, other) for other in others])]
    return [
        (position, flag)
        for position, flag in _conditions(hook.way)
        if _may_ask(book, number, alone, position, flag)
    ]


def _conditions(way):
    """All (position, flag) that a way does not ask, ascending."""
    return [
        (position, column)
        for position, table in enumerate(way.tables)
        for column in sorted(way.schema.columns(table))
        if way.schema.kind(table, column) == "flag" and column not in way.asked[position]
    ]


def _may_ask(book, number, alone, position, flag):
    """Whether a hook may ask a flag; alone are the scenes that no other hook covers."""
    hook = book.hooks[number]
    asking = Hook(hook.event, hook.look, hook.way.asking(position, flag), hook.document)
    if not all([covers(scene, asking) for scene in alone]):
        return False
    hooks = [asking if at == number else other for at, other in enumerate(book.hooks)]
    return not is_trapped(Book(book.documents, hooks, bulk=book.bulk))


def waste(hook, document):
    """The first meeting with an empty P in which the deed does not change the copy, or None."""
    for scene in meetings(hook):
        # Those with an empty P come first.
        if scene.folded:
            return None
        if not _is_changed(scene, document):
            return scene
    return None


def _is_changed(scene, document):
    """Whether the deed of a scene changes the copy."""
    if scene.deed[0] == "put" and scene.changed == (document.base, scene.key):
        return True
    return document(scene.ahead(), scene.key) != document(scene.behind(), scene.key)

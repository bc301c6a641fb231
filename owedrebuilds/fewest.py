"""Fewer hooks: which of them a book needs, and what they may ask."""

from owedrebuilds.booklines import MOST_HOOKS
from owedrebuilds.books import Book
from owedrebuilds.cases import cases
from owedrebuilds.errors import TooMany
from owedrebuilds.folds import subsets
from owedrebuilds.hooks import Hook, Look
from owedrebuilds.keeping import check_kept, coverings
from owedrebuilds.scenes import covers, meetings, scenes
from owedrebuilds.traps import is_trapped
from owedrebuilds.wayforms import form
from owedrebuilds.ways import Way, least_rows
from owedrebuilds.waywords import brackets, hop_word, turned

_MOST_FOR_SETS = 10
_MOST_FOR_LOOKS = 6


def full_book(documents, *, bulk=()):
    """The book of these documents with a hook for each scene with an empty P."""
    plain = Book(documents, ())
    turns = [(*turn, document.name) for document in plain.documents for turn in _full_turns(document)]
    # Many hooks go the same way: each way is read, and put in its form, once.
    ways = {text: Way(plain.schema, text) for text in sorted(set([turn[2] for turn in turns]))}
    forms = {text: form(ways[text]) for text in ways}
    left = {}
    for turn in turns:
        event, look, text, name = turn
        left.setdefault((event, look, forms[text], name), turn)
    if len(left) > MOST_HOOKS:
        raise TooMany("hooks")
    hooks = [Hook(event, look, ways[text], name) for event, look, text, name in left.values()]
    return Book(documents, hooks, bulk=bulk)


def _full_turns(document):
    """(event, look, text of the way) for the scenes of a document, also where some are equal."""
    found = [(("put", document.base), Look.BEHIND, document.base)]
    for way, column in document.reads:
        rows, trail = least_rows(way)
        tails = _tails_back(way)
        for event, side, key in cases(document.schema, rows, trail, column):
            at = trail.index(key)
            # The event of a put or a removal has no column behind its table.
            head = way.tables[at] + brackets([flag for flag in way.asked[at] if flag not in event[2:]])
            found.append((event, Look.AHEAD if side == "off" else Look.BEHIND, head + tails[at]))
    return found


def _tails_back(way):
    """For each position what the way back from there has behind its first word."""
    tails = [""]
    for at, hop in enumerate(way.hops):
        tails.append(" " + hop_word(turned(hop)) + brackets(way.asked[at]) + tails[at])
    return tails


def least_sets(book):
    """All sets of as few hooks as possible with which a kept book is kept, by their numbers."""
    if len(book) > _MOST_FOR_SETS:
        raise TooMany("hooks")
    check_kept(book)
    needs = coverings(book, book.hooks)
    sets = subsets(list(range(len(book))))
    for many in range(len(book) + 1):
        found = [numbers for numbers in sets if len(numbers) == many and _meets(needs, numbers)]
        found = [numbers for numbers in found if not is_trapped(book.only(numbers))]
        if found:
            return found
    return []


def _meets(needs, numbers):
    """Whether each of the needs, tuples of numbers, has one of the numbers."""
    return all([any([number in need for number in numbers]) for need in needs])


def looks(book):
    """All tuples of looks, ahead or behind, with which a book is kept."""
    if len(book) > _MOST_FOR_LOOKS:
        raise TooMany("hooks")
    both = [Look.AHEAD, Look.BEHIND]
    needs = coverings(book, [hook.looking(look) for hook in book for look in both])
    choices = [()]
    for at in range(len(book)):
        choices = [(*choice, number) for choice in choices for number in (2 * at, 2 * at + 1)]
    return [tuple([both[number % 2] for number in choice]) for choice in choices if _meets(needs, choice)]


def may_ask(book, number):
    """All (position, flag) that a hook of a kept book does not ask, but may."""
    check_kept(book)
    hook = book.hooks[number]
    others = [other for at, other in enumerate(book.hooks) if at != number]
    alone = [scene for scene in scenes(book) if not any([covers(scene, other) for other in others])]
    return [
        (position, flag)
        for position, flag in _conditions(hook.way)
        if _may_ask(book, number, alone, position, flag)
    ]


def _conditions(way):
    """All (position, flag) that a way does not ask, ascending."""
    return [
        (position, column)
        for position, table in enumerate(way.tables)
        for column in sorted(way.schema.columns(table))
        if way.schema.kind(table, column) == "flag" and column not in way.asked[position]
    ]


def _may_ask(book, number, alone, position, flag):
    """Whether a hook may ask a flag; alone are the scenes that no other hook covers."""
    hook = book.hooks[number]
    asking = Hook(hook.event, hook.look, hook.way.asking(position, flag), hook.document)
    if not all([covers(scene, asking) for scene in alone]):
        return False
    hooks = [asking if at == number else other for at, other in enumerate(book.hooks)]
    return not is_trapped(Book(book.documents, hooks, bulk=book.bulk))


def waste(hook, document):
    """The first meeting with an empty P in which the deed does not change the copy, or None."""
    for scene in meetings(hook):
        # Those with an empty P come first.
        if scene.folded:
            return None
        if not _is_changed(scene, document):
            return scene
    return None


def _is_changed(scene, document):
    """Whether the deed of a scene changes the copy."""
    if scene.deed[0] == "put" and scene.changed == (document.base, scene.key):
        return True
    return document(scene.ahead(), scene.key) != document(scene.behind(), scene.key)

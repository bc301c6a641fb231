"""Random documents, hooks and books for tests."""

from owedrebuilds.books import Book
from owedrebuilds.documents import Document
from owedrebuilds.hooks import Hook
from owedrebuilds.schemas import Schema
from helpers import random_way

RING = Schema("table cat\nvalue name\nlink parent cat clear\nlink other cat cascade\nflag shown")
CHAIN = Schema("table cat\nlink parent cat clear\nflag shown\nvalue name")
PAIR = Schema("table a\nlink b b clear\nflag f\ntable b\nlink a a cascade\nflag g\nvalue v")
ROAD = Schema("\n".join([
    "table a", "flag f", "value v", "table b", "link a a clear", "flag g", "flag h",
    "table c", "link b b clear", "flag i", "value w",
]))


def columns_to_read(schema, table):
    return [column for column in schema.columns(table) if schema.kind(table, column) != "link"]


def random_document(source, schema, steps, reads, name="doc"):
    """A document with so many reads of up to so many steps."""
    base = source.choice(schema.tables)
    found = []
    while len(found) < reads:
        way = random_way(source, schema, steps)
        columns = columns_to_read(schema, way.end)
        if way.start == base and columns and sum(len(flags) for flags in way.asked) <= 4:
            found.append((way, source.choice(columns)))
    return Document(name, *found)


def random_hook(source, document, steps, looks=("ahead", "behind")):
    """A hook of any event for a document."""
    schema = document.schema
    while True:
        way = random_way(source, schema, steps)
        if way.end == document.base:
            events = [("put", way.start), ("remove", way.start)]
            events += [("set", way.start, column) for column in schema.columns(way.start)] * 2
            return Hook(source.choice(events), source.choice(looks), way, document.name)


def conditions(hook):
    """All (position, flag) that the way of a hook could ask."""
    return [
        (position, column)
        for position, table in enumerate(hook.way.tables) for column in hook.way.schema.columns(table)
        if hook.way.schema.kind(table, column) == "flag"
    ]


def asking(hook, position, flag):
    return Hook(hook.event, hook.look, hook.way.asking(position, flag), hook.document)


def changed_book(source, book):
    """The book with a hook left out, put in, turned round or asking more."""
    hooks = list(book)
    at = source.randrange(len(hooks)) if hooks else 0
    chance = source.random()
    if hooks and chance < 0.5:
        hooks.pop(at)
    elif hooks and chance < 0.7 and conditions(hooks[at]):
        hooks[at] = asking(hooks[at], *source.choice(conditions(hooks[at])))
    elif hooks and chance < 0.85:
        hooks[at] = hooks[at].looking("ahead" if hooks[at].look != "ahead" else "behind")
    else:
        hooks.insert(at, random_hook(source, source.choice(book.documents), 3))
    return Book(book.documents, hooks[:60], bulk=book.bulk)


def late_book(source, book):
    """A straight book with some of its hooks looking late, left out or asking more."""
    hooks = []
    for hook in book:
        chance = source.random()
        if hook.event[0] == "remove" and chance < 0.95:
            hooks.append(hook)
        elif chance < 0.5:
            hooks.append(hook.looking("late"))
        elif chance < 0.95:
            hooks.append(hook)
        if chance < 0.2:
            hooks.append(hook.looking("ahead"))
    for at, hook in enumerate(hooks):
        if source.random() < 0.25 and conditions(hook):
            hooks[at] = asking(hook, *source.choice(conditions(hook)))
    return Book(book.documents, hooks, bulk=book.bulk)


def straight_document(source, schema, steps, reads):
    """A document whose ways come to no table twice."""
    while True:
        document = random_document(source, schema, steps, reads)
        if all(way.is_straight for way, _ in document.reads):
            return document
